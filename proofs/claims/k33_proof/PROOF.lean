import PyProof.Rows.All
import Wide.All
import OpenK.AllK
import Wide.FinOn
import Lean
import PyProof.EqAt
import PyProof.EqKinds
import PyProof.TupleCall
import KE.KLam
import KE.KSortKey
import KE.KSortTup
import KE.KNestM
import PyProof.NeKinds
import PySem.Challenge.RW_roadshare_k33_refused_ones_have_groups
set_option Elab.async false
set_option linter.all false
set_option maxRecDepth 100000
namespace L2
open PySem PySem.Spec PyProof.Rows
abbrev Key := Sum Int Str
def Zhn : Key → Value → Bool
 | .inl k, v => Value.isInt k v
 | .inr x, v => Value.isStrOf x v
def keyH (w : World) : Key → Int
 | .inl k => hashInt k
 | .inr x => hashStr w x
theorem ZaL : ∀ {k : Key} {v : Value}, Zhn k v = true → (∃ i t, k = Sum.inl i ∧ v = Value.int i t) ∨ (∃ x t, k = Sum.inr x ∧ v = Value.str x t)
 | .inl i, v, h => by
  obtain ⟨t, e⟩ := Value.isInt_shape (k := i) (v := v) h
  exact .inl ⟨i, t, rfl, e⟩
 | .inr x, v, h => by
  obtain ⟨t, e⟩ := Value.isStrOf_shape (x := x) (v := v) h
  exact .inr ⟨x, t, rfl, e⟩
theorem ZjM (i : Int) (t : Tok) : Zhn (.inl i) (.int i t) = true := by simp [Zhn, Value.isInt]
theorem Zjl (x : Str) (t : Tok) : Zhn (.inr x) (.str x t) = true := by simp [Zhn, Value.isStrOf]
theorem key_ll (a b : Int) : decide ((Sum.inl a : Key) = Sum.inl b) = (a == b) := by
 by_cases e : a = b
 ·subst e; simp
 ·have h : ¬ (Sum.inl a : Key) = Sum.inl b := fun q => e (Sum.inl.inj q)
  rw [decide_eq_false h]
  exact (beq_eq_false_iff_ne.mpr e).symm
theorem key_rr (a b : Str) : decide ((Sum.inr a : Key) = Sum.inr b) = decide (a = b) := by
 by_cases e : a = b
 ·subst e; simp
 ·have h : ¬ (Sum.inr a : Key) = Sum.inr b := fun q => e (Sum.inr.inj q)
  rw [decide_eq_false h, decide_eq_false e]
theorem key_lr (a : Int) (b : Str) : decide ((Sum.inl a : Key) = Sum.inr b) = false := decide_eq_false (fun q => nomatch q)
theorem key_rl (a : Str) (b : Int) : decide ((Sum.inr a : Key) = Sum.inl b) = false := decide_eq_false (fun q => nomatch q)
def ZaO (prog : Program) (w : World) : PySem.KeyKind prog w Key where
 is := Zhn
 hash := keyH w
 inj := fun v a b ha hb => by
  rcases ZaL ha with ⟨i, t, rfl, rfl⟩ | ⟨x, t, rfl, rfl⟩
  ·rcases ZaL hb with ⟨j, u, rfl, e⟩ | ⟨y, u, rfl, e⟩
   ·injection e with e1 _; rw [e1]
   ·exact nomatch e
  ·rcases ZaL hb with ⟨j, u, rfl, e⟩ | ⟨y, u, rfl, e⟩
   ·exact nomatch e
   ·injection e with e1 _; rw [e1]
 byValue := fun k v h => by
  rcases ZaL h with ⟨i, t, rfl, rfl⟩ | ⟨x, t, rfl, rfl⟩ <;> rfl
 pyHash := fun hv h => by
  rcases ZaL hv with ⟨i, t, rfl, rfl⟩ | ⟨x, t, rfl, rfl⟩
  ·exact wpAny_pyHash_int h
  ·exact wpAny_pyHash_str h
 eqBool := fun hu hv h => by
  rcases ZaL hu with ⟨i, t, rfl, rfl⟩ | ⟨x, t, rfl, rfl⟩
  ·rcases ZaL hv with ⟨j, u, rfl, rfl⟩ | ⟨y, u, rfl, rfl⟩
   ·rw [key_ll] at h; exact wpAny_eqBool_int h
   ·rw [key_lr] at h; exact SeqAt.EqAt.int_str i t y u _ _ _ _ h
  ·rcases ZaL hv with ⟨j, u, rfl, rfl⟩ | ⟨y, u, rfl, rfl⟩
   ·rw [key_rl] at h; exact SeqAt.EqAt.str_int x t j u _ _ _ _ h
   ·rw [key_rr] at h; exact wpAny_eqBool_str h
 «strs» := fun k x t v h => by
  rcases ZaL h with ⟨i, u, rfl, e⟩ | ⟨y, u, rfl, e⟩
  ·exact nomatch e
  ·injection e with e1 _
   subst e1
   cases v <;> rfl
theorem Zgf (prog : Program) (w : World) (i : Int) (t : Tok) : (ZaO prog w).is (.inl i) (.int i t) = true := ZjM i t
theorem Zgh (prog : Program) (w : World) (x : Str) (t : Tok) : (ZaO prog w).is (.inr x) (.str x t) = true := Zjl x t
end L2
namespace L2
open PySem PySem.Spec PyProof.Rows
inductive V where
 | non | bl (b : Bool) | int (i : Int) | str (x : Str) | byt (b : Array UInt8) | flt (b : UInt64) | ref (a : Addr) | ty (n : String)
 deriving DecidableEq
def RelV : V → Value → Prop
 | .non, u => u = Value.none
 | .bl b, u => u = Value.bool b
 | .int i, u => ∃ t, u = Value.int i t
 | .str x, u => ∃ t, u = Value.str x t
 | .byt b, u => ∃ t, u = Value.bytes b t
 | .flt b, u => ∃ t, u = Value.float b t
 | .ref a, u => u = Value.ref a
 | .ty n, u => u = Value.type n
abbrev Vals : List V → List Value → Prop := Paired RelV
theorem Vals.length {xs : List V} {us : List Value} (r : Vals xs us) : xs.length = us.length := Paired.length r
theorem Vals.get : ∀ {xs : List V} {us : List Value} {i : Nat} {x : V}, Vals xs us → xs[i]? = some x → ∃ u, us[i]? = some u ∧ RelV x u
 | _, _, _, _, .nil, e => by simp at e
 | _, _, 0, _, .cons r _, e => by simp at e; subst e; exact ⟨_, rfl, r⟩
 | _, _, i + 1, x, .cons _ t, e => by
  obtain ⟨u, h1, h2⟩ := Vals.get (i := i) (x := x) t (by simpa using e)
  exact ⟨u, by simpa using h1, h2⟩
theorem Vals.set {x : V} {u : Value} (r : RelV x u) : ∀ {xs : List V} {us : List Value} (i : Nat), Vals xs us → Vals (xs.set i x) (us.set i u)
 | _, _, _, .nil => .nil
 | _, _, 0, .cons _ t => .cons r t
 | _, _, i + 1, .cons q t => .cons q (Vals.set r i t)
theorem Vals.append : ∀ {xs ys : List V} {us ws : List Value}, Vals xs us → Vals ys ws → Vals (xs ++ ys) (us ++ ws)
 | _, _, _, _, .nil, s => s
 | _, _, _, _, .cons r t, s => .cons r (Vals.append t s)
theorem Vals.take : ∀ {xs : List V} {us : List Value} (n : Nat), Vals xs us → Vals (xs.take n) (us.take n)
 | _, _, 0, _ => .nil
 | _, _, _ + 1, .nil => .nil
 | _, _, n + 1, .cons r t => .cons r (Vals.take n t)
theorem Vals.drop : ∀ {xs : List V} {us : List Value} (n : Nat), Vals xs us → Vals (xs.drop n) (us.drop n)
 | _, _, 0, r => r
 | _, _, _ + 1, .nil => .nil
 | _, _, n + 1, .cons _ t => Vals.drop n t
theorem Vals.none_of : ∀ {xs : List V} {us : List Value} {i : Nat}, Vals xs us → xs[i]? = none → us[i]? = none := fun {xs us i} r e => by
 have h1 := r.length
 have h2 : xs.length ≤ i := List.getElem?_eq_none_iff.mp e
 exact List.getElem?_eq_none_iff.mpr (by omega)
def RelO : Option V → Option Value → Prop
 | some v, some u => RelV v u
 | none, none => True
 | _, _ => False
def KV {κ : Type} : List (κ × V) → List (κ × Value) → Prop := Paired fun (p : κ × V) (q : κ × Value) => p.1 = q.1 ∧ RelV p.2 q.2
def kV : Key → V
 | .inl i => .int i
 | .inr x => .str x
inductive HO where
 | lst (xs : List V)
 | tup (xs : List V)
 | dK (kvs : List (Key × V)) | dT (kvs : List (List Key × V))
 | set (S : Int → Bool) (n : Nat)
 | ins (C dx : Addr) (fs : List (Str × V))
 | own (x : Addr)
 | xd (fs : List (Str × V))
 | met (f x : Addr)
 | rng (lo hi : Int)
 | frz (o : Obj) (u : HO)
 | tbl (ps : Array Value)
 | ext (φ : Heap → Prop)
abbrev Hp := Addr → Option HO
def upd (H : Hp) (a : Addr) (o : HO) : Hp := fun b => if b = a then some o else H b
theorem upd_same {H : Hp} {a : Addr} {o : HO} : upd H a o a = some o := by unfold upd; rw [if_pos rfl]
theorem Zae {H : Hp} {a b : Addr} {o : HO} (h : b ≠ a) : upd H a o b = H b := by unfold upd; rw [if_neg h]
theorem upd_upd {H : Hp} {a : Addr} {o u : HO} : upd (upd H a o) a u = upd H a u := by
 funext b; unfold upd; split <;> rfl
theorem ZbI {H : Hp} {a b : Addr} {o u : HO} (h : H a = some o) (h' : H b = some u) (d : o ≠ u) : a ≠ b := by
 intro e; subst e; rw [h] at h'; exact d (Option.some.inj h')
theorem Zaj {H : Hp} {a b : Addr} {o : HO} (h : H a = some o) (h' : H b = none) : a ≠ b := by
 intro e; subst e; rw [h] at h'; cases h'
section
variable (P : Program) (w : World)
def ObjOk (H : Hp) (h : Heap) (a : Addr) : HO → Prop
 | .lst xs => xs.length ≤ sizeLine ∧ ∃ (its : List Value) (n : Nat), Vals xs its ∧ h.get? a = some { cls := .type "list", data := .seq its.toArray n }
 | .tup xs => xs.length ≤ sizeLine ∧ ∃ its : List Value, Vals xs its ∧ IsTup h a its.toArray
 | .dK kvs => kvs.length ≤ sizeLine ∧ (a == sysModules) = false ∧ ∃ vs, KV kvs vs ∧ h.DictOf (ZaO P w) a vs
 | .dT kvs => kvs.length ≤ sizeLine ∧ (a == sysModules) = false ∧ ∃ xs : List (List Key × Addr × Value),
   Paired (fun (p : List Key × V) (q : List Key × Addr × Value) => p.1 = q.1 ∧ H q.2.1 = some (.tup (p.1.map kV)) ∧ RelV p.2 q.2.2) kvs xs ∧
   ∃ o es ep, h.get? a = some o ∧ o.ExactDict ∧ o.data = .dict es ep ∧ es.toList = xs.map (entryOfKey (tupleKind (ZaO P w))) ∧ (xs.map (·.1)).Nodup
 | .set S n => h.SetOf (intKind P w) a S n
 | .ins C dx fs => H dx = some (.own a) ∧ fs.length ≤ 1000 ∧ dx ≠ a ∧ h.get? a = some (PySem.W.instObj C dx) ∧
   ∃ mA, h.Ns1 dx mA ∧ (∀ f, RelO (fs.lookup f) (mA f)) ∧ PySem.Within mA (fs.map (·.1))
 | .own _ => ∃ o, h.get? a = some o
 | .xd fs => ∃ mA, h.Ns1 a mA ∧ ∀ f, RelO (fs.lookup f) (mA f)
 | .rng lo hi => ∃ t u v, h.get? a = some { cls := .type "range", data := .fields #[.int lo t, .int hi u, .int 1 v] }
 | .frz o u => h.get? a = some o ∧ ObjOk H h a u
 | .tbl ps => ∃ qs : Array Value, h.get? a = some { cls := .none, data := .fields qs } ∧ TriplesOk qs.toList ∧ ∀ (pos : Pos) (v : Value), codeAmong pos qs.toList = some v →
   ∃ (c : Addr) (o : Obj) (vs : Array Value) (q : Str) (t t' : Tok), v = .ref c ∧ H c = some (.frz o (.own a)) ∧ o.data = .fields vs ∧ vs[1]? = some (.str q t) ∧ ps[0]? = some (.str q t')
 | .met f x => h.get? a = some (PySem.W.methodObj (.ref f) (.ref x))
 | .ext φ => φ h ∧ (∃ o, h.get? a = some o) ∧ ∀ h1 h2 : Heap, φ h1 → (∀ o, h1.get? a = some o → h2.get? a = some o) → φ h2
def HOk (H : Hp) (h : Heap) : Prop := ∀ a o, H a = some o → ObjOk P w H h a o
end
section
variable {P : Program} {w : World} {H H' : Hp} {h h' : Heap} {a : Addr} {o : HO}
theorem ObjOk.lt (x : ObjOk P w H h a o) : a < h.objs.size := by
 cases o with
 | lst xs => obtain ⟨_, _, _, _, e⟩ := x; exact Heap.lt_size e
 | tup xs => obtain ⟨_, _, _, p⟩ := x; exact p.lt
 | dK kvs => obtain ⟨_, _, _, _, o, _, _, e, _⟩ := x; exact Heap.lt_size e
 | dT kvs => obtain ⟨_, _, _, _, o, _, _, e, _⟩ := x; exact Heap.lt_size e
 | set S n => obtain ⟨o, _, _, _, e, _⟩ := x; exact Heap.lt_size e
 | ins C dx fs => obtain ⟨_, _, _, e, _⟩ := x; exact Heap.lt_size e
 | own y => obtain ⟨_, e⟩ := x; exact Heap.lt_size e
 | xd fs => obtain ⟨_, ⟨_, _, _, e, _⟩, _⟩ := x; exact Heap.lt_size e
 | rng lo hi => obtain ⟨_, _, _, e⟩ := x; exact Heap.lt_size e
 | frz ob u => obtain ⟨e, _⟩ := x; exact Heap.lt_size e
 | tbl ps => obtain ⟨_, e, _⟩ := x; exact Heap.lt_size e
 | met f y => exact Heap.lt_size (show h.get? a = some _ from x)
 | ext φ => obtain ⟨_, ⟨_, e⟩, _⟩ := x; exact Heap.lt_size e
theorem Paired.mapP {α β : Type} {F G : α → β → Prop} : ∀ {l₁ : List α} {l₂ : List β}, Paired F l₁ l₂ → (∀ a b, F a b → G a b) → Paired G l₁ l₂
 | _, _, .nil, _ => .nil
 | _, _, .cons r t, f => .cons (f _ _ r) (Paired.mapP t f)
theorem ObjOk.stay (x : ObjOk P w H h a o) (k : ∀ b u, (b = a ∨ H b = some (.own a)) → h.get? b = some u → h'.get? b = some u)
  (ho : ∀ b, H b = some (.own a) → H' b = some (.own a)) (ht : ∀ b xs, H b = some (.tup xs) → H' b = some (.tup xs))
  (hf : ∀ b o, H b = some (.frz o (.own a)) → H' b = some (.frz o (.own a)) := by exact fun _ _ q => q) : ObjOk P w H' h' a o := by
 induction o with
 | lst xs => obtain ⟨z, its, n, r, e⟩ := x; exact ⟨z, its, n, r, k _ _ (.inl rfl) e⟩
 | tup xs => obtain ⟨z, its, r, ob, e, c⟩ := x; exact ⟨z, its, r, ob, k _ _ (.inl rfl) e, c⟩
 | dK kvs => obtain ⟨z, y, vs, r, ob, es, ep, e, c⟩ := x; exact ⟨z, y, vs, r, ob, es, ep, k _ _ (.inl rfl) e, c⟩
 | dT kvs =>
  obtain ⟨z, y, xs, r, ob, es, ep, e, c⟩ := x
  exact ⟨z, y, xs, Paired.mapP r fun p q z => ⟨z.1, ht _ _ z.2.1, z.2.2⟩, ob, es, ep, k _ _ (.inl rfl) e, c⟩
 | set S n => obtain ⟨ob, es, ep, t, e, c⟩ := x; exact ⟨ob, es, ep, t, k _ _ (.inl rfl) e, c⟩
 | ins C dx fs =>
  obtain ⟨d, z, ne, e, mA, ⟨od, es, ep, e2, c⟩, r⟩ := x
  exact ⟨ho _ d, z, ne, k _ _ (.inl rfl) e, mA, ⟨od, es, ep, k _ _ (.inr d) e2, c⟩, r⟩
 | own y => obtain ⟨ob, e⟩ := x; exact ⟨ob, k _ _ (.inl rfl) e⟩
 | xd fs => obtain ⟨mA, ⟨od, es, ep, e, c⟩, r⟩ := x; exact ⟨mA, ⟨od, es, ep, k _ _ (.inl rfl) e, c⟩, r⟩
 | rng lo hi => obtain ⟨t, u, v, e⟩ := x; exact ⟨t, u, v, k _ _ (.inl rfl) e⟩
 | frz ob u ih => obtain ⟨e, q⟩ := x; exact ⟨k _ _ (.inl rfl) e, ih q⟩
 | tbl ps =>
  obtain ⟨qs, e, t, f⟩ := x
  exact ⟨qs, k _ _ (.inl rfl) e, t, fun pos v z => by
   obtain ⟨c, o, vs, q, t, t', e1, e2, r⟩ := f pos v z
   exact ⟨c, o, vs, q, t, t', e1, hf _ _ e2, r⟩⟩
 | met f y =>
  have e : h.get? a = some (PySem.W.methodObj (.ref f) (.ref y)) := x
  show h'.get? a = some (PySem.W.methodObj (.ref f) (.ref y))
  exact k a _ (.inl rfl) e
 | ext φ => obtain ⟨p, ⟨o, e⟩, st⟩ := x; exact ⟨st _ _ p fun o q => k _ _ (.inl rfl) q, ⟨o, k _ _ (.inl rfl) e⟩, st⟩
theorem HOk.lt (x : HOk P w H h) (e : H a = some o) : a < h.objs.size := (x a o e).lt
theorem HOk.fresh (x : HOk P w H h) (e : h.objs.size ≤ a) : H a = none := by
 cases q : H a with
 | none => rfl
 | some u => exact absurd (Nat.lt_of_lt_of_le (x.lt q) e) (Nat.lt_irrefl _)
theorem HOk.kept (x : HOk P w H h) (k : ∀ b u, h.get? b = some u → h'.get? b = some u) : HOk P w H h' := fun a o e =>
 (x a o e).stay (fun b u _ q => k b u q) (fun _ q => q) fun _ _ q => q
theorem HOk.laid (x : HOk P w H h) (k : ∀ b u, h.get? b = some u → h'.get? b = some u) (hp : h.objs.size ≤ a) (new : ObjOk P w (upd H a o) h' a o) : HOk P w (upd H a o) h' := fun b u e => by
 have hn := x.fresh hp
 by_cases hb : b = a
 ·subst hb; rw [upd_same] at e; cases e; exact new
 ·rw [Zae hb] at e
  exact (x b u e).stay (fun c v _ q => k c v q) (fun c q => by rw [Zae (Zaj q hn)]; exact q) (fun c xs q => by rw [Zae (Zaj q hn)]; exact q) fun c o q => by rw [Zae (Zaj q hn)]; exact q
end
def Rd (H : Hp) (a : Addr) (u : HO) : Prop := H a = some u ∨ ∃ o, H a = some (.frz o u)
theorem Rd.of {H : Hp} {a : Addr} {u : HO} (h : H a = some u) : Rd H a u := .inl h
theorem Rd.ok {P : Program} {w : World} {H : Hp} {h : Heap} {a : Addr} {u : HO} (r : Rd H a u) (x : HOk P w H h) : ObjOk P w H h a u := by
 rcases r with r | ⟨o, r⟩
 ·exact x a u r
 ·obtain ⟨_, q⟩ := x a _ r
  exact q
def Mut : Option HO → Prop
 | some (.lst _) => True
 | some (.dK _) => True
 | some (.dT _) => True
 | some (.set _ _) => True
 | some (.ins _ _ _) => True
 | some (.ext _) => True
 | _ => False
section
variable {P : Program} {w : World} {H : Hp} {h h' : Heap} {x e : Addr} {o' : HO}
theorem HOk.write (ok : HOk P w H h) (mu : Mut (H x)) (he : e = x ∨ H e = some (.own x)) (k : ∀ b u, b ≠ e → h.get? b = some u → h'.get? b = some u) (heo : ∃ u, h'.get? e = some u)
  (new : ObjOk P w (upd H x o') h' x o') : HOk P w (upd H x o') h' := fun b u q => by
 have nown : ∀ c y, H c = some (.own y) → c ≠ x := fun c y r z => by subst z; rw [r] at mu; exact mu
 have ntup : ∀ c xs, H c = some (.tup xs) → c ≠ x := fun c xs r z => by subst z; rw [r] at mu; exact mu
 by_cases hb : b = x
 ·subst hb; rw [upd_same] at q; cases q; exact new
 ·rw [Zae hb] at q
  by_cases hbe : b = e
  ·have q' : H b = some (.own x) := by
    rcases he with z | z
    ·exact absurd (hbe.trans z) hb
    ·rw [hbe]; exact z
   rw [q] at q'; cases q'
   obtain ⟨v, hv⟩ := heo
   exact ⟨v, by rw [hbe]; exact hv⟩
  ·refine (ok b u q).stay (fun c v hc r => k c v ?_ r) (fun c r => by rw [Zae (nown c b r)]; exact r) (fun c xs r => by rw [Zae (ntup c xs r)]; exact r) fun c o r => by rw [Zae fun z => by subst z; rw [r] at mu; exact mu]; exact r
   rcases hc with rfl | hc
   ·exact hbe
   ·rintro rfl
    rcases he with z | z
    ·exact nown c b hc z
    ·rw [hc] at z; cases z; exact hb rfl
end
structure Un (fs ex : List Addr) (H H' : Hp) (h h' : Heap) : Prop where
 keep : ∀ b o, h.get? b = some o → H b = none → b ∉ fs → b ∉ ex → h'.get? b = some o
 slot : ∀ b o, h.get? b = some o → H b = none → b ∈ fs → b ∉ ex → ∃ sl, h'.get? b = some { o with slots := sl }
 free : ∀ b o, h.get? b = some o → H b = none → b ∉ ex → H' b = none
 there : ∀ b o, h.get? b = some o → b ∉ ex → ∃ o', h'.get? b = some o'
 tups : ∀ b xs, H b = some (.tup xs) → H' b = some (.tup xs)
 frzs : ∀ b o u, H b = some (.frz o u) → H' b = some (.frz o u)
 tbls : ∀ b ps, H b = some (.tbl ps) → ∃ more, H' b = some (.tbl (ps ++ more))
section
variable {fs fs' ex ex' : List Addr} {H H1 H2 : Hp} {h h1 h2 h' : Heap} {a x e : Addr} {o : HO}
theorem Un.any (u : Un fs ex H H1 h h1) {b : Addr} {ob : Obj} (q : h.get? b = some ob) (n : H b = none) (hx : b ∉ ex) : ∃ sl, h1.get? b = some { ob with slots := sl } := by
 by_cases hb : b ∈ fs
 ·exact u.slot b ob q n hb hx
 ·exact ⟨ob.slots, u.keep b ob q n hb hx⟩
theorem Un.trans (a : Un fs ex H H1 h h1) (b : Un fs ex H1 H2 h1 h2) : Un fs ex H H2 h h2 where
 keep := fun c ob q n hc hx => b.keep c ob (a.keep c ob q n hc hx) (a.free c ob q n hx) hc hx
 slot := fun c ob q n hc hx => by
  obtain ⟨sl, e1⟩ := a.slot c ob q n hc hx
  obtain ⟨sl', e2⟩ := b.slot c _ e1 (a.free c ob q n hx) hc hx
  exact ⟨sl', e2⟩
 free := fun c ob q n hx => by
  obtain ⟨o', e1⟩ := a.there c ob q hx
  exact b.free c o' e1 (a.free c ob q n hx) hx
 there := fun c ob q hx => by
  obtain ⟨o', e1⟩ := a.there c ob q hx
  exact b.there c o' e1 hx
 tups := fun c xs q => b.tups c xs (a.tups c xs q)
 frzs := fun c ob xs q => b.frzs c ob xs (a.frzs c ob xs q)
 tbls := fun c ps q => by
  obtain ⟨m1, e1⟩ := a.tbls c ps q
  obtain ⟨m2, e2⟩ := b.tbls c _ e1
  exact ⟨m1 ++ m2, by rw [e2, Array.append_assoc]⟩
theorem Un.kept (k : ∀ b u, h.get? b = some u → h'.get? b = some u) : Un fs ex H H h h' :=
 ⟨fun b ob q _ _ _ => k b ob q, fun b ob q _ _ _ => ⟨ob.slots, k b ob q⟩, fun _ _ _ n _ => n, fun b ob q _ => ⟨ob, k b ob q⟩, fun _ _ q => q, fun _ _ _ q => q, fun _ ps q => ⟨#[], by rw [q]; simp⟩⟩
theorem Un.refl : Un fs ex H H h h := Un.kept fun _ _ q => q
theorem Un.laid (k : ∀ b u, h.get? b = some u → h'.get? b = some u) (hp : h.objs.size ≤ a) (hn : H a = none) : Un fs ex H (upd H a o) h h' where
 keep := fun b u q _ _ _ => k b u q
 slot := fun b u q _ _ _ => ⟨u.slots, k b u q⟩
 free := fun b u q n _ => by rw [Zae (Nat.ne_of_lt (Nat.lt_of_lt_of_le (Heap.lt_size q) hp))]; exact n
 there := fun b u q _ => ⟨u, k b u q⟩
 tups := fun b xs q => by rw [Zae (Zaj q hn)]; exact q
 frzs := fun b u xs q => by rw [Zae (Zaj q hn)]; exact q
 tbls := fun b ps q => ⟨#[], by rw [Zae (Zaj q hn), q]; simp⟩
theorem Un.write (mu : Mut (H x)) (he : e = x ∨ H e = some (.own x)) (k : ∀ b u, b ≠ e → h.get? b = some u → h'.get? b = some u) (heo : ∃ u, h'.get? e = some u) : Un fs ex H (upd H x o) h h' := by
 have hx : ∀ b, H b = none → b ≠ x := fun b n z => by subst z; rw [n] at mu; exact mu
 have hb : ∀ b, H b = none → b ≠ e := fun b n z => by
  subst z
  rcases he with r | r
  ·exact hx b n r
  ·rw [n] at r; cases r
 have hm : ∀ b u, H b = some u → ¬ Mut (some u) → b ≠ x := fun b u q nm z => by subst z; rw [q] at mu; exact nm mu
 refine ⟨fun b u q n _ _ => k b u (hb b n) q, fun b u q n _ _ => ⟨u.slots, k b u (hb b n) q⟩, fun b u q n _ => by rw [Zae (hx b n)]; exact n, fun b u q _ => ?_,
  fun b xs q => by rw [Zae (hm b _ q fun z => z)]; exact q, fun b u xs q => by rw [Zae (hm b _ q fun z => z)]; exact q, fun b ps q => ⟨#[], by rw [Zae (hm b _ q fun z => z), q]; simp⟩⟩
 by_cases hbe : b = e
 ·subst hbe; exact heo
 ·exact ⟨u, k b u hbe q⟩
theorem Un.mono (u : Un fs ex H H1 h h1) (hs : ∀ b ∈ fs, b ∈ fs') (hx : ∀ b ∈ ex, b ∈ ex') : Un fs' ex' H H1 h h1 :=
 ⟨fun b ob q n hb he => u.keep b ob q n (fun z => hb (hs b z)) fun z => he (hx b z), fun _ _ q n _ he => u.any q n fun z => he (hx _ z), fun b ob q n he => u.free b ob q n fun z => he (hx b z), fun b ob q he => u.there b ob q fun z => he (hx b z), u.tups, u.frzs, u.tbls⟩
end
def trk (h : Heap) (H : Hp) : List Addr := (List.range h.objs.size).filter fun a => (H a).isSome
def Zlq (h : Heap) (H : Hp) : Heap := PySem.W.hideAll h (trk h H)
theorem Zh8 (h : Heap) (H : Hp) : (Zlq h H).objs.size = h.objs.size := PySem.W.hideAll_size _ _
theorem ZeQ {h : Heap} {H : Hp} {b : Addr} {o : Obj} (e : h.get? b = some o) (n : H b = none) : (Zlq h H).get? b = some o :=
 PySem.W.hideAll_get _ e fun hm => by
  have q : (H b).isSome = true := (List.mem_filter.mp hm).2
  rw [n] at q; simp at q
theorem of_hidT {h : Heap} {H : Hp} {b : Addr} {o : Obj} (e : (Zlq h H).get? b = some o) : h.get? b = some o ∧ H b = none := by
 have e' : h.get? b = some o := PySem.W.of_hideAll (trk h H) e
 refine ⟨e', ?_⟩
 cases q : H b with
 | none => rfl
 | some x =>
  have hm : b ∈ trk h H := List.mem_filter.mpr ⟨List.mem_range.mpr (Heap.lt_size e'), by simp [q]⟩
  have z : (Zlq h H).get? b = none := PySem.W.hideAll_none (trk h H) hm
  rw [z] at e; cases e
def allNews (g h : Heap) (L : Addr) : List (Addr × Obj) := (List.range h.objs.size).filterMap fun a => if a = L ∨ (g.get? a).isSome = true then none else (h.get? a).map fun o => (a, o)
def rest (g h : Heap) (L d : Addr) : List (Addr × Obj) := (allNews g h L).filter fun p => decide (p.1 ≠ d)
end L2
namespace L2
open PySem PySem.Spec PyProof.Rows
structure Mod (K : PySem.W.Frag) (mg : Str → Option Value) (base : Heap) : Prop where
 kin : K.In base
 glob : base.Ns mainGlobals mg
 blt : ∃ mb, base.Ns builtinsNs mb ∧ ∀ x : Str, x ≠ "__name__" → mb x = bootBuiltins x
 nolimit : base.NoLimit
structure Cx where
 prog : Program
 w : World
 K : PySem.W.Frag
 mg : Str → Option Value
 base : Heap
 A : Around
 N : List Str
 s₀ : Shared
 H₀ : Hp
 env : Env
 outer : List Env
 stack : List Env
 ex : List Addr
 fn : Str → Bool
 calm : Bool
 pn : List (Addr × Obj)
 xe : Value → Shared → Prop
def frs (l : List Env) : List Addr := l.filterMap (·.frame)
abbrev Cx.fs (X : Cx) : List Addr := frs X.outer
def Vis (sc : Scope) (x : Str) : Prop := sc.names.lookup x = some .local ∨ sc.names.lookup x = some .cell ∨ sc.names.lookup x = some .free
def Loc (sc : Scope) (x : Str) : Prop := sc.names.lookup x = some .local ∨ sc.names.lookup x = some .cell
def Look (env : Env) (h : Heap) (m : Str → Option Value) (x : Str) (u : Value) : Prop :=
 (env.kindOf x = some .local ∧ m x = some u) ∨ ((env.kindOf x = some .cell ∨ env.kindOf x = some .free) ∧ ∃ c, env.cells.lookup x = some c ∧ h.IsCell c (some u))
structure Cx.Ok (X : Cx) : Prop where
 mod : Mod X.K X.mg X.base
 kind : X.env.scope.kind = .function
 glob : X.env.globals = mainGlobals
 blt : X.env.builtins = builtinsNs
 above : X.s₀.heap.objs.size ≤ X.env.locals
 inj : ∀ x y c, X.env.cells.lookup x = some c → X.env.cells.lookup y = some c → x = y
 has : ∀ x, (X.env.kindOf x = some .cell ∨ X.env.kindOf x = some .free) → ∃ c, X.env.cells.lookup x = some c
 cab : ∀ x c, X.fn x = true → X.env.cells.lookup x = some c → X.s₀.heap.objs.size ≤ c
 hd : X.calm = true → X.A.handled = none
 frames : X.A.frames = some X.stack
 stk : X.stack = X.outer ∨ (X.stack = X.env :: X.outer ∧ X.env.frame = some X.env.locals)
 exf : ∀ b ∈ X.ex, b ≠ X.env.locals ∧ ∀ x c, X.env.cells.lookup x = some c → c ≠ b
 bs : ∀ b o, X.base.get? b = some o → X.s₀.heap.get? b = some o ∧ X.H₀ b = none
 bsz : X.base.objs.size ≤ X.s₀.heap.objs.size
 noex : ∀ b o, X.base.get? b = some o → b ∉ X.ex
 exfs : ∀ b ∈ X.ex, b ∉ X.fs
 funs : X.s₀.heap.FunFrames X.base X.outer
 frf : ∀ b ∈ X.fs, X.H₀ b = none
structure Inv (X : Cx) (pins : List (Addr × Obj)) (σ : List (Option V)) (H : Hp) (s : Shared) : Prop where
 ok : X.Ok
 os : s.os = X.s₀.os
 bare : AllBare s.gens
 base : Un X.fs X.ex X.H₀ H X.s₀.heap s.heap
 loc : ∃ m, s.heap.Ns X.env.locals m ∧ ∀ (i : Nat) (x : Str) (v : V), X.N[i]? = some x → σ[i]? = some (some v) → Vis X.env.scope x → ∃ u, RelV v u ∧ Look X.env s.heap m x u
 cell : ∀ x c, X.env.cells.lookup x = some c → ∃ v, s.heap.IsCell c v
 free : H X.env.locals = none
 freeC : ∀ x c, X.env.cells.lookup x = some c → H c = none
 pin : ∀ p ∈ X.pn ++ pins, s.heap.get? p.1 = some p.2 ∧ H p.1 = none ∧ p.1 ≠ X.env.locals ∧ p.1 ∉ X.fs ∧ ∀ v, p.2.data ≠ .cell v
 hok : HOk X.prog X.w H s.heap
 len : σ.length = X.N.length
section
variable {X : Cx} {pins : List (Addr × Obj)} {σ : List (Option V)} {H H' : Hp} {s : Shared} {h' : Heap}
theorem Cx.Ok.nofr (ok : X.Ok) {b : Addr} {o : Obj} (e : X.base.get? b = some o) : b ∉ X.fs := fun hb => by
 have := (ok.funs.mem hb).1
 rw [e] at this; cases this
theorem Inv.bs (I : Inv X pins σ H s) : ∀ b o, X.base.get? b = some o → s.heap.get? b = some o ∧ H b = none := fun b o e =>
 ⟨I.base.keep b o (I.ok.bs b o e).1 (I.ok.bs b o e).2 (I.ok.nofr e) (I.ok.noex b o e), I.base.free b o (I.ok.bs b o e).1 (I.ok.bs b o e).2 (I.ok.noex b o e)⟩
theorem Inv.bk (I : Inv X pins σ H s) : ∀ b o, X.base.get? b = some o → s.heap.get? b = some o := fun b o e => (I.bs b o e).1
theorem Inv.mod (I : Inv X pins σ H s) : Mod X.K X.mg X.base := I.ok.mod
theorem Inv.kIn (I : Inv X pins σ H s) : X.K.In s.heap := I.ok.mod.kin.keeps I.bk
theorem Inv.nolimit (I : Inv X pins σ H s) : s.heap.NoLimit := I.ok.mod.nolimit.keeps I.bk
theorem Inv.fr (I : Inv X pins σ H s) : ∃ m, Fr X.base X.env.locals s.heap m :=
 let ⟨m, hn, _⟩ := I.loc
 ⟨m, hn, I.bk, Nat.le_trans I.ok.bsz I.ok.above⟩
theorem Inv.lt (I : Inv X pins σ H s) : X.env.locals < s.heap.objs.size := let ⟨_, hn, _⟩ := I.loc; hn.lt
theorem Inv.sz (I : Inv X pins σ H s) : X.s₀.heap.objs.size ≤ s.heap.objs.size := Nat.le_trans I.ok.above (Nat.le_of_lt I.lt)
theorem Inv.nofs (I : Inv X pins σ H s) {a : Addr} (h : s.heap.objs.size ≤ a) : a ∉ X.fs := fun hb => by
 obtain ⟨_, o, ho, _⟩ := I.ok.funs.mem hb
 exact absurd (Nat.lt_of_lt_of_le (Heap.lt_size ho) (Nat.le_trans I.sz h)) (Nat.lt_irrefl _)
theorem Inv.cne (I : Inv X pins σ H s) : ∀ x c, X.env.cells.lookup x = some c → c ≠ X.env.locals := fun x c e z => by
 obtain ⟨v, o, ho, hd⟩ := I.cell x c e
 obtain ⟨m, ⟨o', es, ep, ho', hd', _⟩, _⟩ := I.loc
 rw [z, ho'] at ho; cases ho; rw [hd'] at hd; cases hd
theorem Inv.funs (I : Inv X pins σ H s) : s.heap.FunFrames X.base X.outer := by
 have all : ∀ (l : List Env), (∀ b ∈ frs l, b ∈ X.fs) → X.s₀.heap.FunFrames X.base l → s.heap.FunFrames X.base l := by
  intro l
  induction l with
  | nil => intro _ _; trivial
  | cons env r ih =>
   intro hs hl
   obtain ⟨hk, ⟨L, o, hf, hn, ho, hd⟩, hr⟩ := hl
   have hL : L ∈ X.fs := hs L (by unfold frs; rw [List.filterMap_cons, hf]; exact List.mem_cons_self)
   obtain ⟨sl, e⟩ := I.base.slot L o ho (I.ok.frf L hL) hL fun z => I.ok.exfs L z hL
   exact ⟨hk, ⟨L, _, hf, hn, e, hd⟩, ih (fun b hb => hs b (by unfold frs; rw [List.filterMap_cons, hf]; exact List.mem_cons_of_mem _ hb)) hr⟩
 exact all X.outer (fun _ hb => hb) I.ok.funs
theorem Inv.stack (I : Inv X pins σ H s) : s.heap.FunFrames X.base X.stack := by
 rcases I.ok.stk with e | ⟨e, hf⟩
 ·rw [e]; exact I.funs
 ·rw [e]
  obtain ⟨m, hn, _⟩ := I.loc
  refine .cons (by rw [I.ok.kind]; decide) hf hn ?_ I.funs
  exact Heap.get?_none_of_le (Nat.le_trans I.ok.bsz I.ok.above)
theorem Inv.stkSub (I : Inv X pins σ H s) : ∀ b ∈ frs X.stack, b ∈ X.env.locals :: X.fs := fun b hb => by
 rcases I.ok.stk with e | ⟨e, hf⟩
 ·rw [e] at hb; exact List.mem_cons_of_mem _ hb
 ·rw [e] at hb
  unfold frs at hb
  rw [List.filterMap_cons, hf] at hb
  exact hb
theorem Inv.stkFree (I : Inv X pins σ H s) : ∀ b ∈ frs X.stack, H b = none := fun b hb => by
 rcases List.mem_cons.mp (I.stkSub b hb) with e | hb
 ·rw [e]; exact I.free
 ·obtain ⟨_, o, ho, _⟩ := I.ok.funs.mem hb
  exact I.base.free b o ho (I.ok.frf b hb) fun z => I.ok.exfs b z hb
theorem Inv.step {g' : Array GenState} {t' : Nat} {d' : Drawn} {ch : List Addr} (I : Inv X pins σ H s)
  (hch : ∀ b ∈ ch, (b ∈ X.ex ∨ X.s₀.heap.objs.size ≤ b) ∧ b ≠ X.env.locals ∧ (∀ x c, X.env.cells.lookup x = some c → c ≠ b) ∧ ∀ p ∈ X.pn ++ pins, p.1 ≠ b)
  (keep : ∀ b o, b ≠ X.env.locals → b ∉ X.fs → b ∉ ch → s.heap.get? b = some o → H b = none → h'.get? b = some o)
  (slot : ∀ b o, b ≠ X.env.locals → b ∈ X.fs → b ∉ ch → s.heap.get? b = some o → H b = none → ∃ sl, h'.get? b = some { o with slots := sl }) (free : ∀ b o, b ∉ ch → s.heap.get? b = some o → H b = none → H' b = none)
  (there : ∀ b o, b ∉ ch → s.heap.get? b = some o → ∃ o', h'.get? b = some o')
  (tups : ∀ b xs, H b = some (.tup xs) → H' b = some (.tup xs)) (frzs : ∀ b o u, H b = some (.frz o u) → H' b = some (.frz o u)) (tbls : ∀ b ps, H b = some (.tbl ps) → ∃ more, H' b = some (.tbl (ps ++ more)))
  (ns : ∀ m, s.heap.Ns X.env.locals m → h'.Ns X.env.locals m) (hok : HOk X.prog X.w H' h') (hg : AllBare g') :
  Inv X pins σ H' { s with heap := h', gens := g', drawn := d', toks := t' } := by
 have neL : ∀ b o, X.s₀.heap.get? b = some o → b ≠ X.env.locals := fun b o e => Nat.ne_of_lt (Nat.lt_of_lt_of_le (Heap.lt_size e) I.ok.above)
 have neC : ∀ b o, X.s₀.heap.get? b = some o → b ∉ X.ex → b ∉ ch := fun b o e hx hb => by
  rcases (hch b hb).1 with z | z
  ·exact hx z
  ·exact absurd (Nat.lt_of_lt_of_le (Heap.lt_size e) z) (Nat.lt_irrefl _)
 have cellK : ∀ x c, X.env.cells.lookup x = some c → ∀ v, s.heap.IsCell c v → h'.IsCell c v := fun x c e v ⟨o, ho, hd⟩ => by
  have nch : c ∉ ch := fun z => (hch c z).2.2.1 x c e rfl
  by_cases hc : c ∈ X.fs
  ·obtain ⟨sl, q⟩ := slot c o (I.cne x c e) hc nch ho (I.freeC x c e)
   exact ⟨_, q, hd⟩
  ·exact ⟨o, keep c o (I.cne x c e) hc nch ho (I.freeC x c e), hd⟩
 refine ⟨I.ok, I.os, hg, ⟨fun b o e n hb hx => ?_, fun b o e n hb hx => ?_, fun b o e n hx => ?_, fun b o e hx => ?_, fun b xs e => tups b xs (I.base.tups b xs e), fun b o xs e => frzs b o xs (I.base.frzs b o xs e), fun b ps e => ?_⟩, ?_, fun x c e => ?_, ?_, fun x c e => ?_, fun p hp => ?_, hok, I.len⟩
 ·exact keep b o (neL b o e) hb (neC b o e hx) (I.base.keep b o e n hb hx) (I.base.free b o e n hx)
 ·obtain ⟨sl, e1⟩ := I.base.slot b o e n hb hx
  obtain ⟨sl', e2⟩ := slot b _ (neL b o e) hb (neC b o e hx) e1 (I.base.free b o e n hx)
  exact ⟨sl', e2⟩
 ·obtain ⟨o', e1⟩ := I.base.there b o e hx
  exact free b o' (neC b o e hx) e1 (I.base.free b o e n hx)
 ·obtain ⟨o', e1⟩ := I.base.there b o e hx
  exact there b o' (neC b o e hx) e1
 ·obtain ⟨m1, e1⟩ := I.base.tbls b ps e
  obtain ⟨m2, e2⟩ := tbls b _ e1
  exact ⟨m1 ++ m2, by rw [e2, Array.append_assoc]⟩
 ·obtain ⟨m, hn, hl⟩ := I.loc
  refine ⟨m, ns m hn, fun i x v e1 e2 e3 => ?_⟩
  obtain ⟨u, r, l⟩ := hl i x v e1 e2 e3
  refine ⟨u, r, ?_⟩
  rcases l with l | ⟨k, c, e, z⟩
  ·exact .inl l
  ·exact .inr ⟨k, c, e, cellK x c e _ z⟩
 ·obtain ⟨v, z⟩ := I.cell x c e
  exact ⟨v, cellK x c e v z⟩
 ·obtain ⟨m, ⟨o, _, _, ho, _⟩, _⟩ := I.loc
  exact free _ o (fun z => (hch _ z).2.1 rfl) ho I.free
 ·obtain ⟨v, o, ho, hd⟩ := I.cell x c e
  exact free c o (fun z => (hch c z).2.2.1 x c e rfl) ho (I.freeC x c e)
 ·obtain ⟨e, n, ne, nf, d⟩ := I.pin p hp
  have nch : p.1 ∉ ch := fun z => (hch p.1 z).2.2.2 p hp rfl
  exact ⟨keep p.1 p.2 ne nf nch e n, free p.1 p.2 nch e n, ne, nf, d⟩
theorem Inv.un {t' : Nat} (I : Inv X pins σ H s) (u : Un X.fs [] H H' s.heap h') (hok : HOk X.prog X.w H' h') : Inv X pins σ H' { s with heap := h', toks := t' } := by
 obtain ⟨m, ⟨o, es, ep, ho, r⟩, _⟩ := id I.loc
 obtain ⟨sl, hL⟩ := u.any ho I.free (by simp)
 exact I.step (g' := s.gens) (d' := s.drawn) (ch := []) (fun _ z => nomatch z) (fun b o _ hb _ e n => u.keep b o e n hb (by simp)) (fun b o _ hb _ e n => u.slot b o e n hb (by simp)) (fun b o _ e n => u.free b o e n (by simp)) (fun b o _ e => u.there b o e (by simp)) u.tups u.frzs u.tbls (fun m' hm => by
  obtain ⟨o', es', ep', ho', r'⟩ := hm
  rw [ho] at ho'; cases ho'
  exact ⟨_, es', ep', hL, r'⟩) hok I.bare
theorem Inv.call {g' : Array GenState} {t' : Nat} {d' : Drawn} {ch : List Addr} (I : Inv X pins σ H s) (u : Un (frs X.stack) ch H H' s.heap h') (hok : HOk X.prog X.w H' h') (hg : AllBare g')
  (hch : ∀ b ∈ ch, (b ∈ X.ex ∨ X.s₀.heap.objs.size ≤ b) ∧ b ≠ X.env.locals ∧ (∀ x c, X.env.cells.lookup x = some c → c ≠ b) ∧ ∀ p ∈ X.pn ++ pins, p.1 ≠ b) :
  Inv X pins σ H' { s with heap := h', gens := g', drawn := d', toks := t' } := by
 obtain ⟨m, ⟨o, es, ep, ho, r⟩, _⟩ := id I.loc
 obtain ⟨sl, hL⟩ := u.any ho I.free fun z => (hch _ z).2.1 rfl
 exact I.step (ch := ch) hch (fun b o hL hb hc e n => u.keep b o e n (fun z => (List.mem_cons.mp (I.stkSub b z)).elim hL hb) hc) (fun b o _ _ hc e n => u.any e n hc) (fun b o hc e n => u.free b o e n hc) (fun b o hc e => u.there b o e hc) u.tups u.frzs u.tbls (fun m' hm => by
  obtain ⟨o', es', ep', ho', r'⟩ := hm
  rw [ho] at ho'; cases ho'
  exact ⟨_, es', ep', hL, r'⟩) hok hg
theorem Inv.turned {t' : Nat} {it : Addr} (I : Inv X pins σ H s) (k : ∀ b o, b ≠ it → s.heap.get? b = some o → h'.get? b = some o) (hn : H it = none) (hL : it ≠ X.env.locals)
  (h1 : it ∈ X.ex ∨ X.s₀.heap.objs.size ≤ it) (h2 : ∀ x c, X.env.cells.lookup x = some c → c ≠ it) (h3 : ∀ p ∈ X.pn ++ pins, p.1 ≠ it) : Inv X pins σ H { s with heap := h', toks := t' } := by
 have nit : ∀ b u, H b = some u → b ≠ it := fun b u e z => by rw [z, hn] at e; cases e
 refine I.step (g' := s.gens) (d' := s.drawn) (ch := [it]) (fun b hb => ?_) (fun b o _ _ hc e _ => k b o (fun z => hc (by simp [z])) e) (fun b o _ _ hc e _ => ⟨o.slots, k b o (fun z => hc (by simp [z])) e⟩) (fun _ _ _ _ n => n)
  (fun b o hc e => ⟨o, k b o (fun z => hc (by simp [z])) e⟩) (fun _ _ e => e) (fun _ _ _ e => e) (fun b ps e => ⟨#[], by rw [e]; simp⟩) (fun m hm => ?_) (fun b u e => ?_) I.bare
 ·have e : b = it := by simpa using hb
  subst e
  exact ⟨h1, hL, h2, h3⟩
 ·obtain ⟨o, es, ep, ho, r⟩ := hm
  exact ⟨o, es, ep, k _ o (Ne.symm hL) ho, r⟩
 ·refine (I.hok b u e).stay (fun c v hc q => k c v ?_ q) (fun _ q => q) fun _ _ q => q
  rcases hc with z | z
  ·rw [z]; exact nit b u e
  ·exact nit c _ z
theorem Inv.tok (I : Inv X pins σ H s) (t : Nat) : Inv X pins σ H { s with toks := t } := I.un (h' := s.heap) (t' := t) Un.refl I.hok
theorem Inv.kept {t' : Nat} (I : Inv X pins σ H s) (k : ∀ b u, s.heap.get? b = some u → h'.get? b = some u) : Inv X pins σ H { s with heap := h', toks := t' } := I.un (Un.kept k) (I.hok.kept k)
theorem Inv.laid {a : Addr} {o : HO} {t' : Nat} (I : Inv X pins σ H s) (k : ∀ b u, s.heap.get? b = some u → h'.get? b = some u) (hp : s.heap.objs.size ≤ a) (new : ObjOk X.prog X.w (upd H a o) h' a o) :
  Inv X pins σ (upd H a o) { s with heap := h', toks := t' } := I.un (Un.laid k hp (I.hok.fresh hp)) (I.hok.laid k hp new)
theorem Inv.write {x e : Addr} {o : HO} {t' : Nat} (I : Inv X pins σ H s) (mu : Mut (H x)) (he : e = x ∨ H e = some (.own x)) (k : ∀ b u, b ≠ e → s.heap.get? b = some u → h'.get? b = some u) (heo : ∃ u, h'.get? e = some u)
  (new : ObjOk X.prog X.w (upd H x o) h' x o) : Inv X pins σ (upd H x o) { s with heap := h', toks := t' } := I.un (Un.write mu he k heo) (I.hok.write mu he k heo new)
theorem Inv.pins_of {pins' : List (Addr × Obj)} (I : Inv X pins σ H s) (h : ∀ p ∈ pins', s.heap.get? p.1 = some p.2 ∧ H p.1 = none ∧ p.1 ≠ X.env.locals ∧ p.1 ∉ X.fs ∧ ∀ v, p.2.data ≠ .cell v) : Inv X pins' σ H s :=
 ⟨I.ok, I.os, I.bare, I.base, I.loc, I.cell, I.free, I.freeC, fun p hp => (List.mem_append.mp hp).elim (fun z => I.pin p (List.mem_append_left _ z)) (h p), I.hok, I.len⟩
theorem ZgP {N : List Str} (hN : N.Nodup) {i j : Nat} {x : Str} (a : N[i]? = some x) (b : N[j]? = some x) : i = j := by
 obtain ⟨h1, e1⟩ := List.getElem?_eq_some_iff.mp a
 obtain ⟨h2, e2⟩ := List.getElem?_eq_some_iff.mp b
 exact (List.getElem_inj hN).mp (e1.trans e2.symm)
theorem Zip {M : Model} {A : Around} {E : Value → Shared → Prop} {i : Nat} {x : Str} {v : V} {u : Value} {Q : Unit → Shared → Prop} (I : Inv X pins σ H s) (hN : X.N.Nodup) (hi : X.N[i]? = some x) (hx : Loc X.env.scope x) (r : RelV v u)
  (h : ∀ s', Inv X pins (σ.set i (some v)) H s' → (∃ a, Heap.SameBut a s.heap s'.heap ∧ (a = X.env.locals ∨ X.env.cells.lookup x = some a)) → Q () s') (hf : X.fn x = true ∨ X.env.scope.names.lookup x = some .local := by first | exact .inl rfl | exact .inr rfl | assumption) : wpAny M A (storeName X.env x u) Q E s := by
 obtain ⟨m, hn, hl⟩ := id I.loc
 have hcls : (X.env.scope.kind == .class || (X.env.scope.kind == .module && X.env.locals != X.env.globals)) = false := by rw [I.ok.kind]; rfl
 have hiσ : i < σ.length := by rw [I.len]; exact (List.getElem?_eq_some_iff.mp hi).1
 have cne := I.cne
 have tracked : ∀ {a : Addr} {h' : Heap}, (∃ o, s.heap.get? a = some o ∧ H a = none) → Heap.SameBut a s.heap h' → HOk X.prog X.w H h' := fun {a h'} ha hs b ob e => by
  obtain ⟨_, _, hfree⟩ := ha
  refine (I.hok b ob e).stay (fun c w' hc q => (hs.2 c ?_).trans q) (fun _ q => q) fun _ _ q => q
  rintro rfl
  rcases hc with rfl | hc
  ·rw [hfree] at e; cases e
  ·rw [hfree] at hc; cases hc
 rcases hx with hk | hk
 ·refine wpAny_storeName_local hk hn (fun h' hn' hs => ?_) hcls
  obtain ⟨oL, _, _, hoL, _⟩ := id hn
  refine h _ ⟨I.ok, I.os, I.bare, ⟨fun b o e n hb hx => ?_, fun b o e n hb hx => ?_, I.base.free, fun b o e hx => ?_, I.base.tups, I.base.frzs, I.base.tbls⟩, ⟨_, hn', fun j y v' e1 e2 e3 => ?_⟩, fun y c e => ?_, I.free, I.freeC, fun p hp => ?_, tracked ⟨oL, hoL, I.free⟩ hs, by simpa using I.len⟩ ⟨_, hs, .inl rfl⟩
  ·exact (hs.2 b (Nat.ne_of_lt (Nat.lt_of_lt_of_le (Heap.lt_size e) I.ok.above))).trans (I.base.keep b o e n hb hx)
  ·obtain ⟨sl, e1⟩ := I.base.slot b o e n hb hx
   exact ⟨sl, (hs.2 b (Nat.ne_of_lt (Nat.lt_of_lt_of_le (Heap.lt_size e) I.ok.above))).trans e1⟩
  ·obtain ⟨o', e1⟩ := I.base.there b o e hx
   exact ⟨o', (hs.2 b (Nat.ne_of_lt (Nat.lt_of_lt_of_le (Heap.lt_size e) I.ok.above))).trans e1⟩
  ·by_cases hj : j = i
   ·subst hj
    rw [hi] at e1; cases e1
    rw [List.getElem?_set_self hiσ] at e2
    cases e2
    exact ⟨u, r, .inl ⟨hk, by simp⟩⟩
   ·rw [List.getElem?_set_ne (Ne.symm hj)] at e2
    obtain ⟨u', r', q⟩ := hl j y v' e1 e2 e3
    refine ⟨u', r', ?_⟩
    rcases q with ⟨k, e⟩ | ⟨k, c, e, z⟩
    ·refine .inl ⟨k, ?_⟩
     have : y ≠ x := fun e => hj (ZgP hN e1 (e ▸ hi))
     simp [this, e]
    ·exact .inr ⟨k, c, e, z.sameBut hs (cne y c e)⟩
  ·obtain ⟨w', z⟩ := I.cell y c e
   exact ⟨w', z.sameBut hs (cne y c e)⟩
  ·obtain ⟨e, n, ne, nf, d⟩ := I.pin p hp
   exact ⟨(hs.2 p.1 ne).trans e, n, ne, nf, d⟩
 ·have hfn : X.fn x = true := by
   rcases hf with z | z
   ·exact z
   ·rw [z] at hk; cases hk
  obtain ⟨c, hc⟩ := I.ok.has x (.inl hk)
  obtain ⟨w', z⟩ := I.cell x c hc
  refine wpAny_storeName_cell I.ok.kind hk hc z (fun h' hc' hs => ?_)
  obtain ⟨oc, hoc, hocd⟩ := id z
  refine h { s with heap := h' } ⟨I.ok, I.os, I.bare, ⟨fun b o e n hb hx => ?_, fun b o e n hb hx => ?_, I.base.free, fun b o e hx => ?_, I.base.tups, I.base.frzs, I.base.tbls⟩, ⟨m, hn.sameBut hs (Ne.symm (cne x c hc)), fun j y v' e1 e2 e3 => ?_⟩, fun y c' e => ?_, I.free, I.freeC, fun p hp => ?_, tracked ⟨oc, hoc, I.freeC x c hc⟩ hs, by simpa using I.len⟩ ⟨c, hs, .inr hc⟩
  ·exact (hs.2 b (Nat.ne_of_lt (Nat.lt_of_lt_of_le (Heap.lt_size e) (I.ok.cab x c hfn hc)))).trans (I.base.keep b o e n hb hx)
  ·obtain ⟨sl, e1⟩ := I.base.slot b o e n hb hx
   exact ⟨sl, (hs.2 b (Nat.ne_of_lt (Nat.lt_of_lt_of_le (Heap.lt_size e) (I.ok.cab x c hfn hc)))).trans e1⟩
  ·obtain ⟨o', e1⟩ := I.base.there b o e hx
   exact ⟨o', (hs.2 b (Nat.ne_of_lt (Nat.lt_of_lt_of_le (Heap.lt_size e) (I.ok.cab x c hfn hc)))).trans e1⟩
  ·by_cases hj : j = i
   ·subst hj
    rw [hi] at e1; cases e1
    rw [List.getElem?_set_self hiσ] at e2
    cases e2
    exact ⟨u, r, .inr ⟨.inl hk, c, hc, hc'⟩⟩
   ·rw [List.getElem?_set_ne (Ne.symm hj)] at e2
    obtain ⟨u', r', q⟩ := hl j y v' e1 e2 e3
    refine ⟨u', r', ?_⟩
    rcases q with q | ⟨k, c', e, z'⟩
    ·exact .inl q
    ·refine .inr ⟨k, c', e, z'.sameBut hs ?_⟩
     rintro rfl
     exact hj (ZgP hN e1 (I.ok.inj _ _ _ e hc ▸ hi))
  ·by_cases hcc : c' = c
   ·subst hcc; exact ⟨_, hc'⟩
   ·obtain ⟨w2, z2⟩ := I.cell y c' e
    exact ⟨w2, z2.sameBut hs hcc⟩
  ·obtain ⟨e, n, ne, nf, d⟩ := I.pin p hp
   refine ⟨(hs.2 p.1 ?_).trans e, n, ne, nf, d⟩
   intro q
   rw [q, hoc] at e
   have q' : oc = p.2 := Option.some.inj e
   exact d w' (by rw [← q']; exact hocd)
theorem Zds {M : Model} {A : Around} {E : Value → Shared → Prop} {i : Nat} {x : Str} {v : V} {u : Value} {Q : Unit → Shared → Prop} (I : Inv X pins σ H s) (hN : X.N.Nodup) (hi : X.N[i]? = some x) (hx : Loc X.env.scope x) (r : RelV v u)
  (h : ∀ s', Inv X pins (σ.set i (some v)) H s' → Q () s') (hf : X.fn x = true ∨ X.env.scope.names.lookup x = some .local := by first | exact .inl rfl | exact .inr rfl | assumption) : wpAny M A (storeName X.env x u) Q E s :=
 Zip I hN hi hx r (fun s' I' _ => h s' I') hf
theorem Inv.call' {s' : Shared} {ch : List Addr} (I : Inv X pins σ H s) (ho : s'.os = s.os) (u : Un (frs X.stack) ch H H' s.heap s'.heap) (hok : HOk X.prog X.w H' s'.heap) (hg : AllBare s'.gens)
  (hch : ∀ b ∈ ch, (b ∈ X.ex ∨ X.s₀.heap.objs.size ≤ b) ∧ b ≠ X.env.locals ∧ (∀ x c, X.env.cells.lookup x = some c → c ≠ b) ∧ ∀ p ∈ X.pn ++ pins, p.1 ≠ b) : Inv X pins σ H' s' := by
 obtain ⟨h', g', d', t', o'⟩ := s'
 have e : o' = s.os := ho
 subst e
 exact I.call (g' := g') (t' := t') (d' := d') u hok hg hch
end
abbrev XK := Value → Option Addr → Hp → Prop
abbrev St := List (Option V)
abbrev VK := V → Hp → Prop
abbrev TE := St → Hp → VK → Prop
abbrev TT := St → Hp → (Bool → Hp → Prop) → Prop
abbrev TA := St → Hp → (List V → Hp → Prop) → Prop
structure Ends where
 nx : St → Hp → Prop
 rt : VK
 bk : St → Hp → Prop := fun _ _ => False
 ct : St → Hp → Prop := fun _ _ => False
abbrev TS := Ends → St → Hp → Prop
def EP (X : Cx) (pins : List (Addr × Obj)) (σ : St) (Q : VK) (u : Value) (s' : Shared) : Prop := ∃ v H', Inv X pins σ H' s' ∧ RelV v u ∧ Q v H'
def TP (X : Cx) (pins : List (Addr × Obj)) (σ : St) (Q : Bool → Hp → Prop) (b : Bool) (s' : Shared) : Prop := ∃ H', Inv X pins σ H' s' ∧ Q b H'
def AP (X : Cx) (pins : List (Addr × Obj)) (σ : St) (Q : List V → Hp → Prop) (us : List Value) (s' : Shared) : Prop := ∃ vs H', Inv X pins σ H' s' ∧ Vals vs us ∧ Q vs H'
def SP (X : Cx) (pins : List (Addr × Obj)) (D : Ends) (f : Flow) (s' : Shared) : Prop :=
 match f with
 | .next => ∃ σ' H', Inv X pins σ' H' s' ∧ D.nx σ' H'
 | .brk => ∃ σ' H', Inv X pins σ' H' s' ∧ D.bk σ' H'
 | .cont => ∃ σ' H', Inv X pins σ' H' s' ∧ D.ct σ' H'
 | .ret u => ∃ v σ' H', Inv X pins σ' H' s' ∧ RelV v u ∧ D.rt v H'
def PE (X : Cx) (e : Expr) (t : TE) : Prop :=
 ∀ (pins : List (Addr × Obj)) (s : Shared) (σ : St) (H : Hp) (Q : VK), Inv X pins σ H s → t σ H Q → wpAny (model X.prog X.w) X.A (eval e X.env) (EP X pins σ Q) X.xe s
def PT (X : Cx) (e : Expr) (t : TT) : Prop :=
 ∀ (pins : List (Addr × Obj)) (s : Shared) (σ : St) (H : Hp) (Q : Bool → Hp → Prop), Inv X pins σ H s → t σ H Q → wpAny (model X.prog X.w) X.A (isTrue e X.env (eval e X.env)) (TP X pins σ Q) X.xe s
def PW (X : Cx) (e : Expr) (t : TT) : Prop :=
 ∀ (whole : Sem Value) (pins : List (Addr × Obj)) (s : Shared) (σ : St) (H : Hp) (Q : Bool → Hp → Prop), Inv X pins σ H s → t σ H Q → wpAny (model X.prog X.w) X.A (isTrue e X.env whole) (TP X pins σ Q) X.xe s
theorem PW.pt {X : Cx} {e : Expr} {t : TT} (h : PW X e t) : PT X e t := h _
def PA (X : Cx) (es : List Expr) (t : TA) : Prop :=
 ∀ (pos : Pos) (pins : List (Addr × Obj)) (s : Shared) (σ : St) (H : Hp) (Q : List V → Hp → Prop), Inv X pins σ H s → t σ H Q → wpAny (model X.prog X.w) X.A (spliced (backTo pos (starEach es X.env))) (AP X pins σ Q) X.xe s
def PS (X : Cx) (st : Stmt) (t : TS) : Prop :=
 ∀ (pins : List (Addr × Obj)) (s : Shared) (σ : St) (H : Hp) (D : Ends), Inv X pins σ H s → t D σ H → wpAny (model X.prog X.w) X.A (exec st X.env) (SP X pins D) X.xe s
def PSs (X : Cx) (st : List Stmt) (t : TS) : Prop :=
 ∀ (pins : List (Addr × Obj)) (s : Shared) (σ : St) (H : Hp) (D : Ends), Inv X pins σ H s → t D σ H → wpAny (model X.prog X.w) X.A (execs st X.env) (SP X pins D) X.xe s
theorem thn {α : Type} {t : Sem α} {Q Q' : α → Shared → Prop} {M : Model} {A : Around} {E : Value → Shared → Prop} {s : Shared} (h : wpAny M A t Q E s) (hQ : ∀ a s, Q a s → Q' a s) : wpAny M A t Q' E s := wpAny_mono h hQ fun _ _ x => x
end L2
namespace L2
open PySem PySem.Spec PyProof.Rows
section
variable {X : Cx}
def tVar (i : Nat) : TE := fun σ H Q => ∃ v, σ[i]? = some (some v) ∧ Q v H
def tC (v : V) : TE := fun _ H Q => Q v H
theorem pe_var {i : Nat} {x : Str} {pos : Pos} (hN : X.N[i]? = some x) (hv : Vis X.env.scope x) (hd : (x == ("__debug__" : Str)) = false := by decide) (hcd : (x == ("__classdict__" : Str)) = false := by decide) : PE X (.Name x pos) (tVar i) := by
 intro pins s σ H Q I h
 obtain ⟨v, e, h⟩ := h
 obtain ⟨m, hn, hl⟩ := I.loc
 obtain ⟨u, r, l⟩ := hl i x v hN e hv
 have fin : EP X pins σ Q u s := ⟨v, H, I, r, h⟩
 rcases l with ⟨hk, hm⟩ | ⟨hk, c, hc, hcell⟩
 ·exact wpAny_Name (wpAny_loadName_local I.ok.kind hk hn hm fin) hd
 ·rcases hk with hk | hk
  ·exact wpAny_Name (wpAny_loadName_cell I.ok.kind hk hc hcell fin) hd
  ·exact wpAny_Name (wpAny_loadName_free I.ok.kind hk hc hcell fin hcd) hd
theorem pe_int {i j pos} : PE X (.Constant (.int i) j pos) (tC (.int i)) := fun _ _ _ H _ I h => wpAny_Constant_int ⟨.int i, H, I.tok _, ⟨_, rfl⟩, h⟩
theorem pe_bl {b j pos} : PE X (.Constant (.bool b) j pos) (tC (.bl b)) := fun _ _ _ H _ I h => Constant_bool ⟨.bl b, H, I, rfl, h⟩
theorem pe_str {x j pos} : PE X (.Constant (.str x) j pos) (tC (.str x)) := fun _ _ _ H _ I h => Calls.Constant_str ⟨.str x, H, I.tok _, ⟨_, rfl⟩, h⟩
def Gl (X : Cx) (x : Str) : Prop := X.env.kindOf x = some .globalImplicit
theorem Zgw {E : Value → Shared → Prop} {pins : List (Addr × Obj)} {s : Shared} {σ : St} {H : Hp} {x : Str} {u : Value} {pos : Pos} {Q : Value → Shared → Prop} (I : Inv X pins σ H s) (hg : Gl X x) (hm : X.mg x = some u) (h : Q u s)
  (hd : (x == ("__debug__" : Str)) = false := by decide) : wpAny (model X.prog X.w) X.A (eval (.Name x pos) X.env) Q E s :=
 Calls.Name_function_global I.ok.kind hg (Calls.loadGlobal_global (by rw [I.ok.glob]; exact I.mod.glob.keeps I.bk) hm h) hd
theorem ZbO {E : Value → Shared → Prop} {pins : List (Addr × Obj)} {s : Shared} {σ : St} {H : Hp} {x : Str} {u : Value} {pos : Pos} {Q : Value → Shared → Prop} (I : Inv X pins σ H s) (hg : Gl X x) (hm : X.mg x = none) (hv : bootBuiltins x = some u) (h : Q u s)
  (hn : x ≠ "__name__" := by decide) (hd : (x == ("__debug__" : Str)) = false := by decide) : wpAny (model X.prog X.w) X.A (eval (.Name x pos) X.env) Q E s := by
 obtain ⟨mb, h1, h2⟩ := I.mod.blt
 exact Calls.Name_function_global I.ok.kind hg (Calls.loadGlobal_builtin (by rw [I.ok.glob]; exact I.mod.glob.keeps I.bk) hm (by rw [I.ok.blt]; exact h1.keeps I.bk) ((h2 x hn).trans hv) h) hd
theorem pe_glob {x : Str} {v : V} {u : Value} {pos : Pos} (hg : Gl X x) (hm : X.mg x = some u) (r : RelV v u) (hd : (x == ("__debug__" : Str)) = false := by decide) : PE X (.Name x pos) (tC v) :=
 fun _ _ _ H _ I h => Zgw I hg hm ⟨v, H, I, r, h⟩ hd
theorem pe_bltn {x : Str} {v : V} {u : Value} {pos : Pos} (hg : Gl X x) (hm : X.mg x = none) (hv : bootBuiltins x = some u) (r : RelV v u) (hn : x ≠ "__name__" := by decide) (hd : (x == ("__debug__" : Str)) = false := by decide) : PE X (.Name x pos) (tC v) :=
 fun _ _ _ H _ I h => ZbO I hg hm hv ⟨v, H, I, r, h⟩ hn hd
variable {a b : Expr} {ta tb : TE} {pos : Pos}
def PC (X : Cx) (op : CmpOp) (a b : Expr) (t : TE) : Prop :=
 ∀ (pins : List (Addr × Obj)) (s : Shared) (σ : St) (H : Hp) (Q : VK), Inv X pins σ H s → t σ H Q →
  wpAny (model X.prog X.w) X.A (eval a X.env) (fun v s₁ => wpAny (model X.prog X.w) X.A (eval b X.env) (fun u s₂ => wpAny (model X.prog X.w) X.A (compareOp op v u) (EP X pins σ Q) X.xe s₂) X.xe s₁) X.xe s
theorem Zkc (b : Expr) {op : CmpOp} (h : op ≠ .In) (h2 : op ≠ .NotIn) : behindInMarks op b = false := by
 have e1 : (op == CmpOp.In) = false := by cases op <;> first | rfl | exact absurd rfl h
 have e2 : (op == CmpOp.NotIn) = false := by cases op <;> first | rfl | exact absurd rfl h2
 cases b <;> simp [behindInMarks, e1, e2]
def tB (t : TE) : TT := fun σ H Q => t σ H fun x H1 => ∃ c, x = .bl c ∧ Q c H1
theorem pt_cmp {op : CmpOp} {t : TE} (h : PC X op a b t) (h1 : behindInMarks op b = false := by first | exact Zkc _ (by decide) (by decide) | rfl) : PT X (.Compare a [op] [b] pos) (tB t) := by
 intro pins s σ H Q I hw
 refine wpAny_isTrue_Compare1 (thn (h pins s σ H _ I hw) fun v s1 h1 => thn h1 fun u s2 h2 => thn h2 fun c s3 ⟨x, H1, I1, r1, q1⟩ => ?_) h1
 obtain ⟨d, rfl, q⟩ := q1
 cases r1
 exact wpAny_truthy_bool ⟨H1, I1, q⟩
theorem pt_val {e : Expr} {t : TE} (h : PE X e t) (he : ∀ whole, isTrue e X.env whole = (do let v ← whole; standAt e.pos; holding [v] (truthy v)) := by intro _; rfl) : PT X e (tB t) := by
 intro pins s σ H Q I hw
 refine isTrue_plain (thn (h pins s σ H _ I hw) fun v s1 ⟨x, H1, I1, r1, q1⟩ => ?_) (he _)
 obtain ⟨d, rfl, q⟩ := q1
 cases r1
 exact wpAny_truthy_bool ⟨H1, I1, q⟩
variable {tA tB' : TT} {rest : List Expr}
def tAnd (t u : TT) : TT := fun σ H Q => t σ H fun c H1 => if c = true then u σ H1 Q else Q false H1
def tOr (t u : TT) : TT := fun σ H Q => t σ H fun c H1 => if c = true then Q true H1 else u σ H1 Q
def tNot (t : TT) : TT := fun σ H Q => t σ H fun c H1 => Q (!c) H1
theorem pw_or1 (ha : PT X a tA) : PW X (.BoolOp .Or [a] pos) tA := by
 intro wh pins s σ H Q I h
 refine isTrue_or (thn (ha pins s σ H Q I h) fun c s1 e => ?_)
 cases c with
 | false => exact isTrue_or_nil e
 | true => exact e
theorem pw_or (ha : PT X a tA) (hb : PW X (.BoolOp .Or (b :: rest) pos) tB') : PW X (.BoolOp .Or (a :: b :: rest) pos) (tOr tA tB') := by
 intro wh pins s σ H Q I h
 refine isTrue_or (thn (ha pins s σ H _ I h) fun c s1 ⟨H1, I1, q1⟩ => ?_)
 cases c with
 | true => exact ⟨H1, I1, q1⟩
 | false => exact hb wh pins s1 σ H1 Q I1 q1
theorem pt_not (ha : PT X a tA) : PT X (.UnaryOp .Not a pos) (tNot tA) := by
 intro pins s σ H Q I h
 exact isTrue_not (ha pins s σ H (fun c H1 => Q (!c) H1) I h)
def Zlr (ta tb : TE) : TE := fun σ H Q => ta σ H fun x H1 => ∃ c, x = .bl c ∧ if c = true then tb σ H1 Q else Q (.bl false) H1
def tOrV (ta tb : TE) : TE := fun σ H Q => ta σ H fun x H1 => ∃ c, x = .bl c ∧ if c = true then Q (.bl true) H1 else tb σ H1 Q
def Zli (ta : TE) : TE := fun σ H Q => ta σ H fun x H1 => ∃ c, x = .bl c ∧ Q (.bl (!c)) H1
theorem pe_one {op} {t : TE} (h : PE X a t) : PE X (.BoolOp op [a] pos) t := fun pins s σ H Q I hw => BoolOp_one (h pins s σ H Q I hw)
theorem pe_and (ha : PE X a ta) (hb : PE X (.BoolOp .And (b :: rest) pos) tb) : PE X (.BoolOp .And (a :: b :: rest) pos) (Zlr ta tb) := by
 intro pins s σ H Q I h
 refine BoolOp_and (thn (ha pins s σ H _ I h) fun v s1 ⟨x, H1, I1, r1, q1⟩ => ?_)
 obtain ⟨c, rfl, q1⟩ := q1
 cases r1
 refine wpAny_truthy_bool ?_
 cases c with
 | true => exact hb pins s1 σ H1 Q I1 q1
 | false => exact ⟨.bl false, H1, I1, rfl, q1⟩
theorem pe_not (ha : PE X a ta) : PE X (.UnaryOp .Not a pos) (Zli ta) := by
 intro pins s σ H Q I h
 refine UnaryOp_ (thn (ha pins s σ H _ I h) fun v s1 ⟨x, H1, I1, r1, q1⟩ => ?_)
 obtain ⟨c, rfl, q1⟩ := q1
 cases r1
 exact not_of (wpAny_truthy_bool ⟨.bl (!c), H1, I1, rfl, q1⟩)
def tIf (t : TT) (ta tb : TE) : TE := fun σ H Q => t σ H fun c H1 => if c = true then ta σ H1 Q else tb σ H1 Q
theorem pe_ifExp {c : Expr} (hc : PT X c tA) (ha : PE X a ta) (hb : PE X b tb) : PE X (.IfExp c a b pos) (tIf tA ta tb) := by
 intro pins s σ H Q I h
 refine wpAny_IfExp (thn (hc pins s σ H _ I h) fun d s1 ⟨H1, I1, q1⟩ => ?_)
 cases d with
 | true => exact ha pins s1 σ H1 Q I1 q1
 | false => exact hb pins s1 σ H1 Q I1 q1
end
end L2
namespace L2
open PySem PySem.Spec PyProof.Rows
def SqL (K : PySem.W.Frag) (H : Hp) (a : Addr) (xs : List V) : Prop :=
 Rd H a (.lst xs) ∨
  ∃ (o : Obj) (its : Array Value) (n : Nat), K.lookup a = some o ∧ o.cls = .type "list" ∧ o.dict = none ∧ o.data = .seq its n ∧ its.size ≤ sizeLine ∧ Vals xs its.toList
def SqT (K : PySem.W.Frag) (H : Hp) (a : Addr) (xs : List V) : Prop :=
 Rd H a (.tup xs) ∨
  ∃ (o : Obj) (its : Array Value) (n : Nat), K.lookup a = some o ∧ o.cls = .type "tuple" ∧ o.data = .seq its n ∧ its.size ≤ sizeLine ∧ Vals xs its.toList
def absV : Value → Option V
 | .none => some .non
 | .bool b => some (.bl b)
 | .int i _ => some (.int i)
 | .str x _ => some (.str x)
 | .bytes b _ => some (.byt b)
 | .float b _ => some (.flt b)
 | .ref a => some (.ref a)
 | .type n => some (.ty n)
 | _ => none
theorem RelV.abs {x : V} {u : Value} (r : RelV x u) : absV u = some x := by
 cases x with
 | non => cases r; rfl
 | bl _ => cases r; rfl
 | int _ => obtain ⟨t, rfl⟩ := r; rfl
 | str _ => obtain ⟨t, rfl⟩ := r; rfl
 | byt _ => obtain ⟨t, rfl⟩ := r; rfl
 | flt _ => obtain ⟨t, rfl⟩ := r; rfl
 | ref _ => cases r; rfl
 | ty _ => cases r; rfl
theorem RelV.inj {x y : V} {u : Value} (r : RelV x u) (q : RelV y u) : x = y := Option.some.inj (r.abs.symm.trans q.abs)
theorem Vals.inj : ∀ {xs ys : List V} {us : List Value}, Vals xs us → Vals ys us → xs = ys
 | _, _, _, .nil, .nil => rfl
 | _, _, _, .cons r t, .cons r' t' => by rw [r.inj r', Vals.inj t t']
section
variable {X : Cx} {pins : List (Addr × Obj)} {σ : St} {H : Hp} {s : Shared} {a : Addr} {xs ys : List V}
theorem SqL.of {K : PySem.W.Frag} (h : H a = some (.lst xs)) : SqL K H a xs := .inl (.inl h)
theorem SqT.of {K : PySem.W.Frag} (h : H a = some (.tup xs)) : SqT K H a xs := .inl (.inl h)
theorem Inv.list (I : Inv X pins σ H s) (h : SqL X.K H a xs) : ∃ its : List Value, Vals xs its ∧ PlainL s.heap a its.toArray ∧ xs.length ≤ sizeLine := by
 rcases h with h | ⟨o, its, n, hk, hc, hd, hs, hz, r⟩
 ·obtain ⟨z, its, n, r, e⟩ := h.ok I.hok
  exact ⟨its, r, ⟨_, n, e, rfl, rfl, rfl⟩, z⟩
 ·refine ⟨its.toList, r, ⟨o, n, I.kIn a o hk, hc, hd, by simpa using hs⟩, ?_⟩
  have e := r.length
  simp only [Array.length_toList] at e
  omega
theorem Inv.tuple (I : Inv X pins σ H s) (h : SqT X.K H a xs) : ∃ its : List Value, Vals xs its ∧ IsTup s.heap a its.toArray ∧ xs.length ≤ sizeLine := by
 rcases h with h | ⟨o, its, n, hk, hc, hs, hz, r⟩
 ·obtain ⟨z, its, r, p⟩ := h.ok I.hok
  exact ⟨its, r, p, z⟩
 ·refine ⟨its.toList, r, ⟨o, I.kIn a o hk, hc, n, by simpa using hs⟩, ?_⟩
  have e := r.length
  simp only [Array.length_toList] at e
  omega
theorem Inv.list_inj (I : Inv X pins σ H s) (h : SqL X.K H a xs) (h' : SqL X.K H a ys) : xs = ys := by
 obtain ⟨its, r, ⟨o, n, e, _, _, d⟩, _⟩ := I.list h
 obtain ⟨its', r', ⟨o', n', e', _, _, d'⟩, _⟩ := I.list h'
 rw [e] at e'; cases e'
 rw [d] at d'
 injection d' with d1 _
 have : its = its' := by simpa using congrArg Array.toList d1
 subst this
 exact r.inj r'
end
abbrev Cx.wish (X : Cx) (E : Value → Shared → Prop) : Cx := { X with xe := E }
abbrev Cx.nox (X : Cx) : Cx := X.wish fun _ _ => False
theorem Cx.Ok.wish {X : Cx} (ok : X.Ok) (E : Value → Shared → Prop) : (X.wish E).Ok :=
 ⟨ok.mod, ok.kind, ok.glob, ok.blt, ok.above, ok.inj, ok.has, ok.cab, ok.hd, ok.frames, ok.stk, ok.exf, ok.bs, ok.bsz, ok.noex, ok.exfs, ok.funs, ok.frf⟩
theorem Cx.Ok.unwish {X : Cx} {E : Value → Shared → Prop} (ok : (X.wish E).Ok) : X.Ok :=
 ⟨ok.mod, ok.kind, ok.glob, ok.blt, ok.above, ok.inj, ok.has, ok.cab, ok.hd, ok.frames, ok.stk, ok.exf, ok.bs, ok.bsz, ok.noex, ok.exfs, ok.funs, ok.frf⟩
section
variable {X : Cx} {pins : List (Addr × Obj)} {σ : St} {H : Hp} {s : Shared} {E : Value → Shared → Prop}
theorem Inv.wish (I : Inv X pins σ H s) (E : Value → Shared → Prop) : Inv (X.wish E) pins σ H s := ⟨I.ok.wish E, I.os, I.bare, I.base, I.loc, I.cell, I.free, I.freeC, I.pin, I.hok, I.len⟩
theorem Inv.unwish (I : Inv (X.wish E) pins σ H s) : Inv X pins σ H s := ⟨I.ok.unwish, I.os, I.bare, I.base, I.loc, I.cell, I.free, I.freeC, I.pin, I.hok, I.len⟩
theorem SP.unwish {D : Ends} {f : Flow} {s' : Shared} (h : SP (X.wish E) pins D f s') : SP X pins D f s' := by
 cases f with
 | next => obtain ⟨σ', H', I, q⟩ := h; exact ⟨σ', H', I.unwish, q⟩
 | brk => obtain ⟨σ', H', I, q⟩ := h; exact ⟨σ', H', I.unwish, q⟩
 | cont => obtain ⟨σ', H', I, q⟩ := h; exact ⟨σ', H', I.unwish, q⟩
 | ret u => obtain ⟨v, σ', H', I, r, q⟩ := h; exact ⟨v, σ', H', I.unwish, r, q⟩
theorem PE.nox {e : Expr} {t : TE} (h : PE X.nox e t) : PE X e t := fun pins s σ H Q I hw =>
 wpAny_mono (h pins s σ H Q (I.wish _) hw) (fun _ _ ⟨v, H', I', r, q⟩ => ⟨v, H', I'.unwish, r, q⟩) fun _ _ z => False.elim z
theorem PT.nox {e : Expr} {t : TT} (h : PT X.nox e t) : PT X e t := fun pins s σ H Q I hw =>
 wpAny_mono (h pins s σ H Q (I.wish _) hw) (fun _ _ ⟨H', I', q⟩ => ⟨H', I'.unwish, q⟩) fun _ _ z => False.elim z
theorem PSs.nox {st : List Stmt} {t : TS} (h : PSs X.nox st t) : PSs X st t := fun pins s σ H D I hw =>
 wpAny_mono (h pins s σ H D (I.wish _) hw) (fun _ _ q => q.unwish) fun _ _ z => False.elim z
end
section
variable {X : Cx} {st : Stmt} {rest : List Stmt} {t u : TS} {e : Expr} {te : TE} {pos : Pos}
def Zkp : TS := fun D σ H => D.nx σ H
def tSeq (t u : TS) : TS := fun D σ H => t { D with nx := u D } σ H
theorem pss_nil : PSs X [] Zkp := fun _ _ σ H _ I h => wpAny_execs_nil ⟨σ, H, I, h⟩
theorem pss_cons (h1 : PS X st t) (h2 : PSs X rest u) : PSs X (st :: rest) (tSeq t u) := by
 intro pins s σ H D I h
 refine wpAny_execs_cons (thn (h1 pins s σ H { D with nx := u D } I h) fun f s1 q => ?_)
 cases f with
 | next =>
  obtain ⟨σ', H', I', q⟩ := q
  exact h2 pins s1 σ' H' D I' q
 | ret v => exact q
 | brk => exact q
 | cont => exact q
theorem pss_one (h1 : PS X st t) : PSs X [st] t := by
 intro pins s σ H D I h
 refine wpAny_execs_cons (thn (h1 pins s σ H D I h) fun f s1 q => ?_)
 cases f with
 | next => exact wpAny_execs_nil q
 | ret v => exact q
 | brk => exact q
 | cont => exact q
theorem Inv.quiet {pins : List (Addr × Obj)} {σ : St} {H : Hp} {s : Shared} (I : Inv X pins σ H s) : interactive X.env = false := by simp [interactive, I.ok.kind]
def ZkC (te : TE) : TS := fun D σ H => te σ H fun _ H1 => D.nx σ H1
theorem ps_expr (he : PE X e te) (hs : swapsWith e none pos.line X.env = pure false := by rfl) : PS X (.Expr e pos) (ZkC te) := by
 intro pins s σ H D I h
 exact wpAny_Expr_any (thn (he pins s σ H _ I h) fun v s1 ⟨x, H1, I1, r1, q1⟩ => ⟨σ, H1, I1, q1⟩) I.quiet hs
def tRet (te : TE) : TS := fun D σ H => te σ H D.rt
theorem ps_ret (he : PE X e te) : PS X (.Return (some e) pos) (tRet te) := by
 intro pins s σ H D I h
 exact wpAny_Return_some (thn (he pins s σ H _ I h) fun v s1 ⟨x, H1, I1, r1, q1⟩ => ⟨x, σ, H1, I1, r1, q1⟩)
def tRetN : TS := fun D _ H => D.rt .non H
def tIfS (c : TT) (t u : TS) : TS := fun D σ H => c σ H fun b H1 => if b = true then t D σ H1 else u D σ H1
theorem ps_if {c : Expr} {a b : List Stmt} {tc : TT} (hc : PT X c tc) (ha : PSs X a t) (hb : PSs X b u) : PS X (.If c a b pos) (tIfS tc t u) := by
 intro pins s σ H D I h
 refine wpAny_If (thn (hc pins s σ H _ I h) fun d s1 ⟨H1, I1, q1⟩ => ?_)
 cases d with
 | true => exact ha pins s1 σ H1 D I1 q1
 | false => exact hb pins s1 σ H1 D I1 q1
def tNever : TS := fun _ _ _ => False
theorem Zkf : PS X st tNever := fun _ _ _ _ _ _ h => h.elim
end
abbrev TG := V → St → Hp → (St → Hp → Prop) → Prop
abbrev TGs := List V → St → Hp → (St → Hp → Prop) → Prop
def PG (X : Cx) (target : Expr) (t : TG) : Prop :=
 ∀ (pins : List (Addr × Obj)) (s : Shared) (σ : St) (H : Hp) (v : V) (u : Value) (Q : St → Hp → Prop), Inv X pins σ H s → RelV v u → t v σ H Q →
  wpAny (model X.prog X.w) X.A (assign target X.env u) (fun _ s' => ∃ σ' H', Inv X pins σ' H' s' ∧ Q σ' H') X.xe s
def PGs (X : Cx) (ts : List Expr) (t : TGs) : Prop :=
 ∀ (pins : List (Addr × Obj)) (s : Shared) (σ : St) (H : Hp) (vs : List V) (us : List Value) (Q : St → Hp → Prop), Inv X pins σ H s → Vals vs us → t vs σ H Q →
  wpAny (model X.prog X.w) X.A (assignInOrder ((assignEach ts X.env).map (·.2)) us) (fun _ s' => ∃ σ' H', Inv X pins σ' H' s' ∧ Q σ' H') X.xe s
abbrev TSet := V → V → V → Hp → (Hp → Prop) → Prop
def PSet (X : Cx) (t : TSet) : Prop :=
 ∀ (pins : List (Addr × Obj)) (s : Shared) (σ : St) (H : Hp) (o i v : V) (ov iv u : Value) (Q : Hp → Prop), Inv X pins σ H s → RelV o ov → RelV i iv → RelV v u → t o i v H Q →
  wpAny (model X.prog X.w) X.A (setItem ov iv u) (fun _ s' => ∃ H', Inv X pins σ H' s' ∧ Q H') X.xe s
section
variable {X : Cx} {pos : Pos}
def Zcu (i : Nat) : TG := fun v σ H Q => Q (σ.set i (some v)) H
theorem pg_name {i : Nat} {x : Str} (hN : X.N.Nodup) (hi : X.N[i]? = some x) (hx : Loc X.env.scope x) (hf : X.fn x = true ∨ X.env.scope.names.lookup x = some .local := by first | exact .inl rfl | exact .inr rfl | assumption) : PG X (.Name x pos) (Zcu i) := by
 intro pins s σ H v u Q I r h
 exact wpAny_assign_Name (Zds I hN hi hx r (fun s' I' => ⟨_, H, I', h⟩) hf)
def gNil : TGs := fun vs σ H Q => vs = [] ∧ Q σ H
def Zki (t : TG) (u : TGs) : TGs := fun vs σ H Q => ∃ v r, vs = v :: r ∧ t v σ H fun σ' H' => u r σ' H' Q
theorem pgs_nil : PGs X [] gNil := by
 intro pins s σ H vs us Q I r h
 obtain ⟨e, h⟩ := h
 subst e
 cases r
 exact assignInOrder_nil ⟨σ, H, I, h⟩
theorem ZlG {e : Expr} {es : List Expr} {t : TG} {u : TGs} (h1 : PG X e t) (h2 : PGs X es u)
  (hs : (assignEach (e :: es) X.env).map (·.2) = assign e X.env :: (assignEach es X.env).map (·.2) := by rfl) : PGs X (e :: es) (Zki t u) := by
 intro pins s σ H vs us Q I r h
 obtain ⟨v, vr, e1, h⟩ := h
 subst e1
 cases r with
 | cons r rr =>
  rw [hs]
  refine assignInOrder_cons (thn (h1 pins s σ H _ _ _ I r h) fun _ s1 ⟨σ1, H1, I1, q1⟩ => ?_)
  exact h2 pins s1 σ1 H1 _ _ Q I1 rr q1
def gTup (K : PySem.W.Frag) (n : Nat) (t : TGs) : TG := fun v σ H Q => ∃ a xs, v = .ref a ∧ SqT K H a xs ∧ xs.length = n ∧ t xs σ H Q
theorem pg_tup {es : List Expr} {k : Nat} {t : TGs} {n : Nat} (hc : X.calm = true) (h : PGs X es t)
  (hn : (assignEach es X.env).length = n := by rfl) (hst : (assignEach es X.env).findIdx? (·.1) = none := by rfl) : PG X (.Tuple es k pos) (gTup X.K n t) := by
 intro pins s σ H v u Q I r hw
 obtain ⟨a, xs, e1, hq, hl, hw⟩ := hw
 subst e1
 cases r
 obtain ⟨its, rv, ht, hz⟩ := I.tuple hq
 refine assign_Tuple_tuple (I.ok.hd hc) ht (by simp [hn, ← hl, rv.length]) hst fun h' hx => ?_
 have I1 : Inv X pins σ H { s with heap := h' } := I.kept (t' := s.toks) fun b o e => hx b o (Nat.ne_of_lt (Heap.lt_size e)) e
 exact h pins _ σ H xs _ Q I1 (by simpa using rv) hw
def gSub (to ti : TE) (t : TSet) : TG := fun v σ H Q => to σ H fun o H1 => ti σ H1 fun i H2 => t o i v H2 fun H3 => Q σ H3
theorem pg_sub {o i : Expr} {to ti : TE} {t : TSet} (ho : PE X o to) (hi : PE X i ti) (hs : PSet X t)
  (ha : ∀ v, assign (.Subscript o i pos) X.env v = (do
   let ov ← holding [v] (eval o X.env)
   let iv ← holding [v, ov] (eval i X.env)
   standAt pos
   holding [v, ov, iv] (setItem ov iv v)
   release [v, ov, iv] []) := by intro _; rfl) : PG X (.Subscript o i pos) (gSub to ti t) := by
 intro pins s σ H v u Q I r h
 rw [ha]
 refine wpAny_bind (wpAny_holding (thn (ho pins s σ H _ I h) fun ov s1 ⟨x, H1, I1, r1, q1⟩ => ?_))
 refine wpAny_bind (wpAny_holding (thn (hi pins s1 σ H1 _ I1 q1) fun iv s2 ⟨y, H2, I2, r2, q2⟩ => ?_))
 refine wpAny_bind (wpAny_standAt (wpAny_bind (wpAny_holding (thn (hs pins s2 σ H2 x y v ov iv u _ I2 r1 r2 r q2) fun _ s3 ⟨H3, I3, q3⟩ => ?_))))
 exact wpAny_release ⟨σ, H3, I3, q3⟩
def Zj9 (te : TE) (g : TG) : TS := fun D σ H => te σ H fun x H1 => g x σ H1 D.nx
theorem ps_asg {tg e : Expr} {te : TE} {g : TG} (he : PE X e te) (hg : PG X tg g) (hs : swapsWithSole [tg] e pos.line X.env = pure false := by rfl) (hw : swappedStores [tg] e X.env = pure none := by rfl)
  (h1 : (assignEach [tg] X.env).map (·.2) = [assign tg X.env] := by rfl) : PS X (.Assign [tg] e pos) (Zj9 te g) := by
 intro pins s σ H D I h
 refine wpAny_Assign_stores (thn (he pins s σ H _ I h) fun v s1 ⟨x, H1, I1, r1, q1⟩ => ?_) hs hw
 rw [h1]
 exact thn (hg pins s1 σ H1 x v _ I1 r1 q1) fun _ s2 q => q
theorem ps_set {i : Nat} {x : Str} {e : Expr} {te : TE} {pos' : Pos} (hN : X.N.Nodup) (hi : X.N[i]? = some x) (hx : Loc X.env.scope x) (he : PE X e te) (hs : swapsWith e (some (.Name x pos')) pos.line X.env = pure false := by rfl) (hf : X.fn x = true ∨ X.env.scope.names.lookup x = some .local := by first | exact .inl rfl | exact .inr rfl | assumption) :
  PS X (.Assign [.Name x pos'] e pos) (Zj9 te (Zcu i)) := by
 intro pins s σ H D I h
 refine wpAny_Assign_Name (thn (he pins s σ H _ I h) fun v s1 ⟨y, H1, I1, r1, q1⟩ => ?_) hs
 exact Zds I1 hN hi hx r1 (fun s2 I2 => ⟨_, H1, I2, q1⟩) hf
def tPar (i j : Nat) (ta : TA) : TS := fun D σ H => ta σ H fun vs H1 => ∃ v w, vs = [v, w] ∧ D.nx ((σ.set i (some v)).set j (some w)) H1
theorem ps_par {i j : Nat} {x y : Str} {a b : Expr} {ta : TA} {px py pt : Pos} {kt k2 pt2} (hc : X.calm = true) (hN : X.N.Nodup) (hi : X.N[i]? = some x) (hj : X.N[j]? = some y) (hij : i ≠ j)
  (hx : X.env.scope.names.lookup x = some .local) (hy : X.env.scope.names.lookup y = some .local) (ha : PA X [a, b] ta)
  (hw : swappedStores [.Tuple [.Name x px, .Name y py] kt pt] (.Tuple [a, b] k2 pt2) X.env = pure (some [x, y]))
  (hs : swapsWithSole [.Tuple [.Name x px, .Name y py] kt pt] (.Tuple [a, b] k2 pt2) pos.line X.env = pure false := by rfl) :
  PS X (.Assign [.Tuple [.Name x px, .Name y py] kt pt] (.Tuple [a, b] k2 pt2) pos) (tPar i j ta) := by
 intro pins s σ H D I h
 rw [exec_Assign_arm]
 refine wpAny_bind (wpAny_standAt ?_)
 rw [hs]
 refine wpAny_bind (wpAny_pure ?_)
 rw [if_neg (by decide)]
 refine wpAny_bind (Tuple_ (thn (ha _ pins s σ H _ I h) fun us s1 ⟨vs, H1, I1, r1, q1⟩ => ?_))
 obtain ⟨v, w, e1, q1⟩ := q1
 subst e1
 obtain ⟨u1, u2, rfl, rv, rw'⟩ : ∃ u1 u2, us = [u1, u2] ∧ RelV v u1 ∧ RelV w u2 := by
  cases r1 with
  | cons p q =>
   cases q with
   | cons p' q' =>
    cases q'
    exact ⟨_, _, rfl, p, p'⟩
 refine wpAny_newObj_type ?_ (by show 2 ≤ sizeLine; decide)
 have I2 : Inv X pins σ H1 { s1 with heap := s1.heap.push { cls := .type "tuple", data := .seq [u1, u2].toArray } } := I1.kept (t' := s1.toks) fun b o e => Heap.get?_push_of_some _ e
 rw [hw]
 refine wpAny_bind (wpAny_pure ?_)
 show wpAny (model X.prog X.w) X.A (do rule "assign.swapped-stores"; let items ← unpackItems (.ref s1.heap.objs.size) 2 none; assignInOrder [fun v => bindName X.env y v, fun v => bindName X.env x v] items.reverse; pure Flow.next) _ _ _
 refine wpAny_bind (wpAny_rule (wpAny_bind (unpackItems_tuple (items := #[u1, u2]) (I.ok.hd hc) (IsTup.new s1.heap _) fun h' hx' => ?_)))
 have I3 := I2.kept (h' := h') (t' := s1.toks) fun b o e => hx' b o (Nat.ne_of_lt (Heap.lt_size e)) e
 show wpAny _ _ (assignInOrder [fun v => bindName X.env y v, fun v => bindName X.env x v] [u2, u1] >>= fun _ => pure Flow.next) _ _ _
 refine wpAny_bind (assignInOrder_cons (wpAny_bindName (Zds I3 hN hj (.inl hy) rw' (fun s2 I4 => ?_) (.inr hy))))
 refine assignInOrder_cons (wpAny_bindName (Zds I4 hN hi (.inl hx) rv (fun s3 I5 => assignInOrder_nil (wpAny_pure ?_)) (.inr hx)))
 rw [List.set_comm _ _ (Ne.symm hij)] at I5
 exact ⟨_, H1, I5, q1⟩
end
section
variable {X : Cx} {pos : Pos}
def ZjZ (c : TT) (tb : TS) : TS := fun D σ H => ∃ W : Nat → St → Hp → Prop, (∃ m, W m σ H) ∧ ∀ m σ H, W m σ H →
 c σ H fun b H1 => if b = true then ∃ N : St → Hp → Prop, (∀ σ' H', N σ' H' → ∃ m', m' < m ∧ W m' σ' H') ∧ tb { D with nx := N, ct := N, bk := D.nx } σ H1 else D.nx σ H1
theorem ZlI {c : Expr} {body : List Stmt} {tc : TT} {tb : TS} (hp : PassesOwn (model X.prog X.w) X.A X.env X.xe) (hc : PT X c tc) (hb : PSs X body tb) : PS X (.While c body [] pos) (ZjZ tc tb) := by
 intro pins s σ H D I h
 obtain ⟨W, ⟨m0, w0⟩, turn⟩ := h
 refine wpAny_While (codeAny_whileLoop (fun n s' => ∃ σ' H', Inv X pins σ' H' s' ∧ W n σ' H') ?_ m0 ⟨σ, H, I, w0⟩)
 rintro n s1 ⟨σ1, H1, I1, w1⟩
 refine wpAny_passesOwn hp (thn (hc pins s1 σ1 H1 _ I1 (turn n σ1 H1 w1)) fun b s2 ⟨H2, I2, q2⟩ => ?_)
 cases b with
 | true =>
  obtain ⟨N, hN, q2⟩ := q2
  rw [if_pos rfl]
  refine wpAny_passesOwn hp (thn (hb pins s2 σ1 H2 _ I2 q2) fun f s3 q3 => ?_)
  cases f with
  | next =>
   obtain ⟨σ3, H3, I3, n3⟩ := q3
   obtain ⟨m', hm, w3⟩ := hN σ3 H3 n3
   exact ⟨m', hm, σ3, H3, I3, w3⟩
  | cont =>
   obtain ⟨σ3, H3, I3, n3⟩ := q3
   obtain ⟨m', hm, w3⟩ := hN σ3 H3 n3
   exact ⟨m', hm, σ3, H3, I3, w3⟩
  | brk => exact q3
  | ret v => exact q3
 | false =>
  rw [if_neg Bool.false_ne_true]
  exact wpAny_execs_nil ⟨σ1, H2, I2, q2⟩
end
structure It where
 go : Nat → Hp → Prop
 yld : Nat → Hp → V → Hp → Prop
 stop : Nat → Hp → Prop
def Zdk (X : Cx) (pins : List (Addr × Obj)) (H : Hp) (b : Addr) : Prop :=
 H b = none ∧ b ≠ X.env.locals ∧ b ∉ X.fs ∧ (b ∈ X.ex ∨ X.s₀.heap.objs.size ≤ b) ∧ (∀ x c, X.env.cells.lookup x = some c → c ≠ b) ∧ ∀ p ∈ X.pn ++ pins, p.1 ≠ b
theorem Inv.fpOk {X : Cx} {pins : List (Addr × Obj)} {σ : St} {H H' : Hp} {s : Shared} {b : Addr} (I : Inv X pins σ H s) (hb : s.heap.objs.size ≤ b) (hn : H' b = none) : Zdk X pins H' b := by
 refine ⟨hn, Nat.ne_of_gt (Nat.lt_of_lt_of_le I.lt hb), I.nofs hb, .inr (Nat.le_trans I.sz hb), fun x c e z => ?_, fun p hp z => ?_⟩
 ·obtain ⟨v, q⟩ := I.cell x c e
  exact absurd (Nat.lt_of_lt_of_le q.lt (by rw [z]; exact hb)) (Nat.lt_irrefl _)
 ·exact absurd (Nat.lt_of_lt_of_le (Heap.lt_size (I.pin p hp).1) (by rw [z]; exact hb)) (Nat.lt_irrefl _)
structure Turn (P : Program) (w : World) (K : PySem.W.Frag) (tg : Expr) (J : It) (fp : List Addr) (it : Addr) (tn : Nat → Heap → Prop) : Prop where
 mem : it ∈ fp
 obj : ∀ i h, tn i h → ∀ b ∈ fp, ∃ o, h.get? b = some o ∧ ∀ v, o.data ≠ .cell v
 keep : ∀ i h h', tn i h → (∀ b ∈ fp, ∀ o, h.get? b = some o → h'.get? b = some o) → tn i h'
 item : ∀ (X : Cx), X.prog = P → X.w = w → X.K = K → X.calm = true → ∀ (i : Nat) (pins : List (Addr × Obj)) (s : Shared) (σ : St) (H : Hp) (E : Value → Shared → Prop), Inv X pins σ H s → (∀ b ∈ fp, Zdk X pins H b) → tn i s.heap → J.go i H →
  wpAny (model P w) X.A (pyNext (.ref it)) (fun r s1 => ∃ u, r = some u ∧
   wpAny (model P w) X.A (letOwnedTupleGo tg (.ref it) u) (fun _ s2 => ∃ x H', Inv X pins σ H' s2 ∧ RelV x u ∧ J.yld i H x H' ∧ tn (i + 1) s2.heap ∧ ∀ b ∈ fp, H' b = none) E s1) E s
 done : ∀ (X : Cx), X.prog = P → X.w = w → X.K = K → X.calm = true → ∀ (i : Nat) (pins : List (Addr × Obj)) (s : Shared) (σ : St) (H : Hp) (E : Value → Shared → Prop), Inv X pins σ H s → (∀ b ∈ fp, Zdk X pins H b) → tn i s.heap → J.stop i H →
  wpAny (model P w) X.A (pyNext (.ref it)) (fun r s1 => r = none ∧ Inv X pins σ H s1) E s
 self : ∀ (A : Around) (i : Nat) (s : Shared) (Q : Value → Shared → Prop) (E : Value → Shared → Prop), tn i s.heap → Q (.ref it) s → wpAny (model P w) A (pyIter (.ref it)) Q E s
abbrev TI := St → Hp → (It → Hp → Prop) → Prop
def PIE (X : Cx) (pins : List (Addr × Obj)) (σ : St) (tg : Expr) (R : It → Hp → Prop) (itv : Value) (s2 : Shared) : Prop :=
 ∃ (it : Addr) (fp : List Addr) (tn : Nat → Heap → Prop) (J : It) (H' : Hp), itv = .ref it ∧ Inv X pins σ H' s2 ∧ Turn X.prog X.w X.K tg J fp it tn ∧ tn 0 s2.heap ∧ (∀ b ∈ fp, Zdk X pins H' b) ∧ R J H'
def PI (X : Cx) (tg iter : Expr) (wi : TI) : Prop :=
 ∀ (pins : List (Addr × Obj)) (s : Shared) (σ : St) (H : Hp) (R : It → Hp → Prop), Inv X pins σ H s → wi σ H R →
  wpAny (model X.prog X.w) X.A (eval iter X.env) (fun v s1 => wpAny (model X.prog X.w) X.A (pyIter v) (PIE X pins σ tg R) X.xe s1) X.xe s
theorem go_of {M : Model} {A : Around} {E : Value → Shared → Prop} {s : Shared} {tg : Expr} {it : Addr} {u : Value} {o : Obj} {n : String} {vs : Array Value} {Q : Unit → Shared → Prop} (ho : s.heap.get? it = some o) (hc : o.cls = .type n) (hd : o.data = .fields vs)
    (hn : ["enumerate", "zip", "dict_itemiterator", "dict_reverseitemiterator", "odict_iterator", "itertools.zip_longest", "itertools.pairwise"].contains n = false) (hQ : Q () s) : wpAny M A (letOwnedTupleGo tg (.ref it) u) Q E s := by
  unfold letOwnedTupleGo
  cases tg <;> first
    | exact wpAny_pure hQ
    | (cases u <;> first
        | exact wpAny_pure hQ
        | (refine wpAny_bind (wpAny_load ho ?_)
           rw [hc, hd]
           show wpAny M A (if (["enumerate", "zip", "dict_itemiterator", "dict_reverseitemiterator", "odict_iterator", "itertools.zip_longest", "itertools.pairwise"].contains n && vs[0]? == some (rawInt _)) = true then _ else _) Q E s
           rw [if_neg (by intro h; rw [hn, Bool.false_and] at h; cases h)]
           exact wpAny_pure hQ))
def Itl (K : PySem.W.Frag) (a : Addr) : It :=
 ⟨fun i H => ∃ xs x, SqL K H a xs ∧ xs[i]? = some x, fun i H x H' => H' = H ∧ ∀ xs, SqL K H a xs → xs[i]? = some x, fun i H => ∃ xs, SqL K H a xs ∧ xs.length ≤ i⟩
def Itr (lo : Int) (n : Nat) : It := ⟨fun i _ => i < n, fun i H x H' => H' = H ∧ x = .int (lo + i), fun i _ => n ≤ i⟩
theorem Zj6 {P : Program} {w : World} {K : PySem.W.Frag} {tg : Expr} (a it : Addr) : Turn P w K tg (Itl K a) [it] it (fun i h => h.IsListIter it a i) where
 mem := by simp
 obj := fun i h st b hb => by
  have e : b = it := by simpa using hb
  subst e
  obtain ⟨o, e, c, d⟩ := st
  exact ⟨o, e, fun v z => by rw [d] at z; cases z⟩
 keep := fun i h h' st k => st.at fun o e => k it (by simp) o e
 item := by
  intro X hP hw hK hc i pins s σ H E I hf st hg
  subst hP hw hK
  obtain ⟨xs, x, hq, hx⟩ := hg
  obtain ⟨its, rv, p, hz⟩ := I.list hq
  obtain ⟨u, hu, ru⟩ := rv.get hx
  obtain ⟨f0, f1, f2, f3, f4, f5⟩ := hf it (by simp)
  refine wpAny_pyNext_list_item st p.isList (x := u) (by simpa using hu) fun h' st' sb => ?_
  have I1 : Inv X pins σ H { s with heap := h' } := I.turned (t' := s.toks) (fun b o hb e => (sb.2 b hb).trans e) f0 f1 f3 f4 f5
  obtain ⟨o, e, c, d⟩ := id st'
  exact ⟨u, rfl, go_of (s := { s with heap := h' }) e c d (by decide) ⟨x, H, I1, ru, ⟨rfl, fun ys hy => by rw [I.list_inj hy hq]; exact hx⟩, st', fun b hb => (hf b hb).1⟩⟩
 done := by
  intro X hP hw hK hc i pins s σ H E I hf st hg
  subst hP hw hK
  obtain ⟨xs, hq, hx⟩ := hg
  obtain ⟨its, rv, p, hz⟩ := I.list hq
  obtain ⟨f0, f1, f2, f3, f4, f5⟩ := hf it (by simp)
  have hl := rv.length
  exact wpAny_pyNext_list_end (I.ok.hd hc) st p.isList (by simp; omega) fun h' eb => ⟨rfl, I.turned (t' := s.toks) (fun b o hb e => eb b o hb e) f0 f1 f3 f4 f5⟩
 self := fun _ _ _ _ _ st h => wpAny_pyIter_listiter st h
theorem Zhr {P : Program} {w : World} {K : PySem.W.Frag} {tg : Expr} (it : Addr) (lo : Int) (n : Nat) : Turn P w K tg (Itr lo n) [it] it (fun i h => IsRangeIter h it (lo + (i : Nat) * 1) ((n : Int) - (i : Nat)) 1) where
 mem := by simp
 obj := fun i h st b hb => by
  have e : b = it := by simpa using hb
  subst e
  exact ⟨_, st, fun v z => by
   have z' : Data.fields _ = Data.cell v := z
   cases z'⟩
 keep := fun i h h' st k => k it (by simp) _ st
 item := by
  intro X hP hw hK hc i pins s σ H E I hf st hg
  subst hP hw hK
  obtain ⟨f0, f1, f2, f3, f4, f5⟩ := hf it (by simp)
  have W := Walks.range (prog := X.prog) (w := X.w) (I.ok.hd hc) it lo 1 n
  refine W.item i s _ _ hg st fun v h' tk hv st' kk => ?_
  obtain ⟨t, rfl⟩ := hv
  have I1 : Inv X pins σ H { s with heap := h', toks := tk } := I.turned (fun b o hb e => kk b o (by simpa using hb) e) f0 f1 f3 f4 f5
  refine ⟨_, rfl, go_of (s := { s with heap := h', toks := tk }) (n := "range_iterator") st' rfl rfl (by decide) ⟨.int (lo + i), H, I1, ⟨t, ?_⟩, ⟨rfl, rfl⟩, st', fun b hb => (hf b hb).1⟩⟩
  rw [Int.mul_one]
 done := by
  intro X hP hw hK hc i pins s σ H E I hf st hg
  subst hP hw hK
  obtain ⟨f0, f1, f2, f3, f4, f5⟩ := hf it (by simp)
  exact wpAny_pyNext_range_end (I.ok.hd hc) st (by have : n ≤ i := hg; omega) fun h' eb => ⟨rfl, I.turned (t' := s.toks) (fun b o hb e => eb b o hb e) f0 f1 f3 f4 f5⟩
 self := fun _ _ _ _ _ st h => wpAny_pyIter_rangeiter st h
end L2
namespace L2
open PySem PySem.Spec PyProof.Rows
section
variable {X : Cx} {tg : Expr}
def Zeh (K : PySem.W.Frag) (tl : TE) : TI := fun σ H R => tl σ H fun x H1 => ∃ a, x = .ref a ∧ (∃ xs, SqL K H1 a xs) ∧ R (Itl K a) H1
theorem pi_list {l : Expr} {tl : TE} (hl : PE X l tl) : PI X tg l (Zeh X.K tl) := by
 intro pins s σ H R I h
 refine thn (hl pins s σ H _ I h) fun v s1 ⟨x, H1, I1, r1, q1⟩ => ?_
 obtain ⟨a, e, ⟨xs, hq⟩, q⟩ := q1
 subst e
 cases r1
 obtain ⟨its, rv, p, hz⟩ := I1.list hq
 refine wpAny_pyIter_list p.isList ?_
 refine ⟨s1.heap.objs.size, [s1.heap.objs.size], _, _, H1, rfl, I1.kept (t' := s1.toks) fun b o e => Heap.get?_push_of_some _ e, Zj6 a _, ⟨_, Heap.get?_push_size _ rfl, rfl, rfl⟩, fun b hb => ?_, q⟩
 have e : b = s1.heap.objs.size := by simpa using hb
 subst e
 exact I1.fpOk (Nat.le_refl _) (I1.hok.fresh (Nat.le_refl _))
theorem ZgT {pins : List (Addr × Obj)} {σ : St} {H : Hp} {s : Shared} {R : It → Hp → Prop} {E : Value → Shared → Prop} {lo hi : Int} {t u v : Tok} {tk : Nat} (I : Inv X pins σ H s) (h1 : -(2 ^ 62) ≤ lo) (h2 : lo < 2 ^ 62) (h3 : -(2 ^ 62) ≤ hi) (h4 : hi < 2 ^ 62)
  (q : R (Itr lo (hi - lo).toNat) H) : wpAny (model X.prog X.w) X.A (pyIter (.ref s.heap.objs.size)) (PIE X pins σ tg R) E { s with heap := s.heap.push { cls := .type "range", data := .fields #[.int lo t, .int hi u, .int 1 v] }, toks := tk } := by
 refine wpAny_pyIter_range (IsRange.new ..) (small_one h1 h2 h3 h4) ?_
 have I1 : Inv X pins σ H { s with heap := s.heap.push { cls := .type "range", data := .fields #[.int lo t, .int hi u, .int 1 v] }, toks := tk } := I.kept fun b o e => Heap.get?_push_of_some _ e
 refine ⟨(s.heap.push { cls := .type "range", data := .fields #[.int lo t, .int hi u, .int 1 v] }).objs.size, [(s.heap.push { cls := .type "range", data := .fields #[.int lo t, .int hi u, .int 1 v] }).objs.size], _, _, H, rfl,
  I1.kept (t' := tk) fun b o e => Heap.get?_push_of_some _ e, Zhr _ lo (hi - lo).toNat, ?_, fun b hb => ?_, q⟩
 ·have e1 : lo + ((0 : Nat) : Int) * 1 = lo := by simp
  have e2 : (((hi - lo).toNat : Nat) : Int) - ((0 : Nat) : Int) = Builtin.Range.rangeSize lo hi 1 := by rw [rangeSize_one]; split <;> omega
  show IsRangeIter _ _ (lo + ((0 : Nat) : Int) * 1) ((((hi - lo).toNat : Nat) : Int) - ((0 : Nat) : Int)) 1
  rw [e1, e2]
  exact Heap.get?_push_size _ rfl
 ·have e : b = (s.heap.push { cls := .type "range", data := .fields #[.int lo t, .int hi u, .int 1 v] }).objs.size := by simpa using hb
  subst e
  exact I1.fpOk (Nat.le_refl _) (I1.hok.fresh (Nat.le_refl _))
def ZhC (ta : TA) : TI := fun σ H R => ta σ H fun vs H1 => ∃ j : Int, vs = [.int j] ∧ -(2 ^ 62) ≤ j ∧ j < 2 ^ 62 ∧ R (Itr 0 j.toNat) H1
def iRng2 (ta : TA) : TI := fun σ H R => ta σ H fun vs H1 => ∃ i j : Int, vs = [.int i, .int j] ∧ (-(2 ^ 62) ≤ i ∧ i < 2 ^ 62 ∧ -(2 ^ 62) ≤ j ∧ j < 2 ^ 62) ∧ R (Itr i (j - i).toNat) H1
theorem Ziu {a : Expr} {ta : TA} {p pos : Pos} (hg : Gl X "range") (hm : X.mg "range" = none) (ha : PA X [a] ta) (hs : starEach [a] X.env = [(false, eval a X.env)] := by rfl) : PI X tg (.Call (.Name "range" p) [a] [] pos) (ZhC ta) := by
 intro pins s σ H R I h
 refine Call_ (ZbO I hg hm boot_range (PyProof.Rows.callWith_type1 (thn (ha pos pins s σ H _ I h) fun us s1 ⟨vs, H1, I1, r1, q1⟩ => ?_) hs rfl))
 obtain ⟨j, e, q1, q2, q⟩ := q1
 subst e
 cases r1 with
 | cons r rr =>
  cases rr
  obtain ⟨t, rfl⟩ := r
  exact call_range_1 (ZgT I1 (by omega) (by omega) q1 q2 (by simpa using q))
theorem Zi1 {a b : Expr} {ta : TA} {p pos : Pos} (hg : Gl X "range") (hm : X.mg "range" = none) (ha : PA X [a, b] ta) (hs : starEach [a, b] X.env = [(false, eval a X.env), (false, eval b X.env)] := by rfl) (hs2 : starEach [b] X.env = [(false, eval b X.env)] := by rfl) :
  PI X tg (.Call (.Name "range" p) [a, b] [] pos) (iRng2 ta) := by
 intro pins s σ H R I h
 refine Call_ (ZbO I hg hm boot_range (PyProof.Rows.callWith_type1 (thn (ha pos pins s σ H _ I h) fun us s1 ⟨vs, H1, I1, r1, q1⟩ => ?_) (by rw [hs, hs2]) (by rw [hs2]; rfl)))
 obtain ⟨i, j, e, ⟨q1, q2, q3, q4⟩, q⟩ := q1
 subst e
 cases r1 with
 | cons r rr =>
  cases rr with
  | cons r' rr =>
   cases rr
   obtain ⟨t, rfl⟩ := r
   obtain ⟨t', rfl⟩ := r'
   exact call_range_2 (ZgT I1 q1 q2 q3 q4 q)
def ZkS (wi : TI) (g : TG) (tb : TS) : TS := fun D σ H => wi σ H fun J H1 => ∃ W : Nat → Nat → St → Hp → Prop, (∃ m, W 0 m σ H1) ∧ ∀ i m σ H, W i m σ H →
 (J.stop i H ∧ D.nx σ H) ∨ (J.go i H ∧ ∃ N : St → Hp → Prop, (∀ σ' H', N σ' H' → ∃ m', m' < m ∧ W (i + 1) m' σ' H') ∧ ∀ x H', J.yld i H x H' → g x σ H' fun σ2 H2 => tb { D with nx := N, ct := N, bk := D.nx } σ2 H2)
def ZgR (fp : List Addr) (h : Heap) : List (Addr × Obj) := fp.filterMap fun b => (h.get? b).map fun o => (b, o)
theorem ZbE {fp : List Addr} {h : Heap} {b : Addr} {o : Obj} (hb : b ∈ fp) (e : h.get? b = some o) : (b, o) ∈ ZgR fp h := List.mem_filterMap.mpr ⟨b, hb, by rw [e]; rfl⟩
theorem Ziz {fp : List Addr} {h : Heap} {p : Addr × Obj} (hp : p ∈ ZgR fp h) : p.1 ∈ fp ∧ h.get? p.1 = some p.2 := by
 obtain ⟨b, hb, e⟩ := List.mem_filterMap.mp hp
 cases q : h.get? b with
 | none => rw [q] at e; cases e
 | some o =>
  rw [q] at e
  have e' : (b, o) = p := Option.some.inj e
  subst e'
  exact ⟨hb, q⟩
theorem Inv.pinned {pins : List (Addr × Obj)} {σ : St} {H : Hp} {s : Shared} {fp : List Addr} (I : Inv X pins σ H s) (hf : ∀ b ∈ fp, Zdk X pins H b) (ho : ∀ b ∈ fp, ∃ o, s.heap.get? b = some o ∧ ∀ v, o.data ≠ .cell v) : Inv X (pins ++ ZgR fp s.heap) σ H s :=
 I.pins_of fun p hp => (List.mem_append.mp hp).elim (fun z => I.pin p (List.mem_append_right _ z)) fun z => by
  obtain ⟨hb, e⟩ := Ziz z
  obtain ⟨f0, f1, f2, _⟩ := hf p.1 hb
  obtain ⟨o, e', d⟩ := ho p.1 hb
  rw [e] at e'; cases e'
  exact ⟨e, f0, f1, f2, d⟩
theorem Inv.unpinned {pins pl : List (Addr × Obj)} {σ : St} {H : Hp} {s : Shared} (I : Inv X (pins ++ pl) σ H s) : Inv X pins σ H s := I.pins_of fun p hp => I.pin p (List.mem_append_right _ (List.mem_append_left _ hp))
theorem ps_for {iter : Expr} {body : List Stmt} {wi : TI} {g : TG} {tb : TS} {pos : Pos} (hp : PassesOwn (model X.prog X.w) X.A X.env X.xe) (hc : X.calm = true) (hi : PI X tg iter wi) (hg : PG X tg g) (hb : PSs X body tb)
  (hs : ∀ x, foldedSetIterable iter X.env x = pure x := by intro _; rfl) : PS X (.For tg iter body [] pos) (ZkS wi g tb) := by
 intro pins s σ H D I h
 refine wpAny_For (thn (hi pins s σ H _ I h) fun v s1 h1 => thn h1 fun itv s2 h2 => ?_) hs
 obtain ⟨it, fp, tn, J, H2, e, I2, T, st2, f2, W, ⟨m0, w0⟩, turn⟩ := h2
 subst e
 -- what stays true of the iterator's objects through the loop
 have stat : ∀ {H' : Hp}, (∀ b ∈ fp, H' b = none) → ∀ b ∈ fp, Zdk X pins H' b := fun hn b hb => ⟨hn b hb, (f2 b hb).2⟩
 refine codeAny_forLoop_any (fun n s' => ∃ i σ' H', Inv X pins σ' H' s' ∧ tn i s'.heap ∧ (∀ b ∈ fp, H' b = none) ∧ W i n σ' H') ?_ m0 ⟨0, σ, H2, I2, st2, fun b hb => (f2 b hb).1, w0⟩
 rintro n s3 ⟨i, σ3, H3, I3, st3, fr3, w3⟩
 rcases turn i n σ3 H3 w3 with ⟨stop, qn⟩ | ⟨go, N, hN, step⟩
 ·refine wpAny_passesOwn hp (thn (T.done X rfl rfl rfl hc i pins s3 σ3 H3 X.xe I3 (stat fr3) st3 stop) fun r s4 ⟨hr, I4⟩ => ?_)
  subst hr
  exact wpAny_execs_nil ⟨σ3, H3, I4, qn⟩
 ·refine wpAny_passesOwn hp (thn (T.item X rfl rfl rfl hc i pins s3 σ3 H3 X.xe I3 (stat fr3) st3 go) fun r s4 ⟨u, hr, h4⟩ => ?_)
  subst hr
  refine wpAny_passesOwn hp (thn h4 fun _ s5 ⟨x, H5, I5, r5, y5, st5, fr5⟩ => ?_)
  have I5' := I5.pinned (stat fr5) (T.obj _ _ st5)
  refine wpAny_passesOwn hp (thn (hg _ s5 σ3 H5 x u _ I5' r5 (step x H5 y5)) fun _ s6 ⟨σ6, H6, I6, q6⟩ => ?_)
  refine wpAny_passesOwn hp (thn (hb _ s6 σ6 H6 _ I6 q6) fun f s7 q7 => ?_)
  have again : ∀ {σ7 : St} {H7 : Hp}, Inv X (pins ++ ZgR fp s5.heap) σ7 H7 s7 → N σ7 H7 → ∃ m, m < n ∧ ∃ i σ' H', Inv X pins σ' H' s7 ∧ tn i s7.heap ∧ (∀ b ∈ fp, H' b = none) ∧ W i m σ' H' := fun {σ7 H7} I7 n7 => by
   obtain ⟨m', hm, w7⟩ := hN σ7 H7 n7
   refine ⟨m', hm, i + 1, σ7, H7, I7.unpinned, T.keep _ _ _ st5 fun b hb o e => (I7.pin (b, o) (List.mem_append_right _ (List.mem_append_right _ (ZbE hb e)))).1, fun b hb => ?_, w7⟩
   obtain ⟨o, e, d⟩ := T.obj _ _ st5 b hb
   exact (I7.pin (b, o) (List.mem_append_right _ (List.mem_append_right _ (ZbE hb e)))).2.1
  cases f with
  | next => obtain ⟨σ7, H7, I7, n7⟩ := q7; exact again I7 n7
  | cont => obtain ⟨σ7, H7, I7, n7⟩ := q7; exact again I7 n7
  | brk => obtain ⟨σ7, H7, I7, q7⟩ := q7; exact ⟨σ7, H7, I7.unpinned, q7⟩
  | ret v => obtain ⟨x7, σ7, H7, I7, r7, q7⟩ := q7; exact ⟨x7, σ7, H7, I7.unpinned, r7, q7⟩
end
theorem ZgQ {K : PySem.W.Frag} {a : Addr} {xs : List V} {g : TG} {tb : TS} {D : Ends} {σ : St} {H : Hp} (Pv : Nat → St → Hp → Prop) (h0 : Pv 0 σ H) (hl : ∀ i σ H, i ≤ xs.length → Pv i σ H → SqL K H a xs)
  (hs : ∀ i x σ H, xs[i]? = some x → Pv i σ H → g x σ H fun σ2 H2 => tb { D with nx := Pv (i + 1), ct := Pv (i + 1), bk := D.nx } σ2 H2) (hd : ∀ σ H, Pv xs.length σ H → D.nx σ H) :
  ∃ W : Nat → Nat → St → Hp → Prop, (∃ m, W 0 m σ H) ∧ ∀ i m σ H, W i m σ H →
   ((Itl K a).stop i H ∧ D.nx σ H) ∨ ((Itl K a).go i H ∧ ∃ N : St → Hp → Prop, (∀ σ' H', N σ' H' → ∃ m', m' < m ∧ W (i + 1) m' σ' H') ∧ ∀ x H', (Itl K a).yld i H x H' → g x σ H' fun σ2 H2 => tb { D with nx := N, ct := N, bk := D.nx } σ2 H2) := by
 refine ⟨fun i m σ H => m = xs.length - i ∧ i ≤ xs.length ∧ Pv i σ H, ⟨xs.length, by simp, Nat.zero_le _, h0⟩, ?_⟩
 rintro i m σ H ⟨rfl, hi, p⟩
 have q := hl i σ H hi p
 by_cases hlt : i < xs.length
 ·refine .inr ⟨⟨xs, xs[i], q, by simp [hlt]⟩, Pv (i + 1), fun σ' H' p' => ⟨xs.length - (i + 1), by omega, rfl, hlt, p'⟩, fun x H' y => ?_⟩
  obtain ⟨e, y⟩ := y
  subst e
  exact hs i x σ _ (y xs q) p
 ·have e : i = xs.length := by omega
  subst e
  exact .inl ⟨⟨xs, q, Nat.le_refl _⟩, hd σ H p⟩
end L2
namespace L2
open PySem PySem.Spec PyProof.Rows
abbrev R2 := V → V → Hp → VK → Prop
def OpR (X : Cx) (f : Value → Value → Sem Value) (r : R2) : Prop :=
 ∀ (pins : List (Addr × Obj)) (s : Shared) (σ : St) (H : Hp) (x y : V) (v u : Value) (Q : VK), Inv X pins σ H s → RelV x v → RelV y u → r x y H Q →
  wpAny (model X.prog X.w) X.A (f v u) (EP X pins σ Q) X.xe s
def UnR (X : Cx) (f : Value → Sem Value) (r : V → Hp → VK → Prop) : Prop :=
 ∀ (pins : List (Addr × Obj)) (s : Shared) (σ : St) (H : Hp) (x : V) (v : Value) (Q : VK), Inv X pins σ H s → RelV x v → r x H Q →
  wpAny (model X.prog X.w) X.A (f v) (EP X pins σ Q) X.xe s
def CallR (X : Cx) (f : Value) (r : List V → Hp → VK → Prop) : Prop :=
 ∀ (pins : List (Addr × Obj)) (s : Shared) (σ : St) (H : Hp) (xs : List V) (us : List Value) (Q : VK), Inv X pins σ H s → Vals xs us → r xs H Q →
  wpAny (model X.prog X.w) X.A (call f us) (EP X pins σ Q) X.xe s
def tOp (r : R2) (ta tb : TE) : TE := fun σ H Q => ta σ H fun x H1 => tb σ H1 fun y H2 => r x y H2 Q
def tUn (r : V → Hp → VK → Prop) (ta : TE) : TE := fun σ H Q => ta σ H fun x H1 => r x H1 Q
def rI (C : Int → Int → Prop) (g : Int → Int → V) : R2 := fun x y H Q => ∃ i j, x = .int i ∧ y = .int j ∧ C i j ∧ Q (g i j) H
def rI0 (g : Int → Int → V) : R2 := fun x y H Q => ∃ i j, x = .int i ∧ y = .int j ∧ Q (g i j) H
def rU (g : Int → V) : V → Hp → VK → Prop := fun x H Q => ∃ i, x = .int i ∧ Q (g i) H
section
variable {X : Cx} {a b c : Expr} {ta tb tc : TE} {pos : Pos}
theorem binT (ha : PE X a ta) (hb : PE X b tb) {pins : List (Addr × Obj)} {s : Shared} {σ : St} {H : Hp} {R : V → V → Hp → Prop} (I : Inv X pins σ H s)
  (h : ta σ H fun x H1 => tb σ H1 fun y H2 => R x y H2) {Q : Value → Shared → Prop} {f : Value → Value → Sem Value}
  (hf : ∀ v u s2 x y H2, Inv X pins σ H2 s2 → RelV x v → RelV y u → R x y H2 → wpAny (model X.prog X.w) X.A (f v u) Q X.xe s2) :
  wpAny (model X.prog X.w) X.A (eval a X.env) (fun v s₁ => wpAny (model X.prog X.w) X.A (eval b X.env) (fun u s₂ => wpAny (model X.prog X.w) X.A (f v u) Q X.xe s₂) X.xe s₁) X.xe s := by
 refine thn (ha pins s σ H _ I h) fun v s1 ⟨x, H1, I1, r1, q1⟩ => ?_
 refine thn (hb pins s1 σ H1 _ I1 q1) fun u s2 ⟨y, H2, I2, r2, q2⟩ => ?_
 exact hf v u s2 x y H2 I2 r1 r2 q2
theorem ZdW {op : Operator} {r : R2} (ho : OpR X (binaryOp op) r) (ha : PE X a ta) (hb : PE X b tb) : PE X (.BinOp a op b pos) (tOp r ta tb) := by
 intro pins s σ H Q I h
 exact wpAny_BinOp (binT ha hb I h fun v u s2 x y H2 I2 rx ry q => ho pins s2 σ H2 x y v u Q I2 rx ry q)
theorem pe_un {op : UnaryOp} {r : V → Hp → VK → Prop} (ho : UnR X (unaryOp op) r) (ha : PE X a ta) : PE X (.UnaryOp op a pos) (tUn r ta) := by
 intro pins s σ H Q I h
 exact UnaryOp_ (thn (ha pins s σ H _ I h) fun v s1 ⟨x, H1, I1, r1, q1⟩ => ho pins s1 σ H1 x v Q I1 r1 q1)
theorem opI {f : Value → Value → Sem Value} {C : Int → Int → Prop} {g : Int → Int → Int}
  (rule : ∀ (i j : Int) (t u : Tok) (s : Shared) (Q : Value → Shared → Prop) (E : Value → Shared → Prop), C i j → Q (.int (g i j) s.toks) { s with toks := s.toks + 1 } → wpAny (model X.prog X.w) X.A (f (.int i t) (.int j u)) Q E s) :
  OpR X f (rI C fun i j => .int (g i j)) := by
 intro pins s σ H x y v u Q I rx ry h
 obtain ⟨i, j, rfl, rfl, hc, q⟩ := h
 obtain ⟨t, rfl⟩ := rx
 obtain ⟨t', rfl⟩ := ry
 exact rule i j t t' s _ _ hc ⟨.int (g i j), H, I.tok _, ⟨_, rfl⟩, q⟩
theorem opI0 {f : Value → Value → Sem Value} {g : Int → Int → Int}
  (rule : ∀ (i j : Int) (t u : Tok) (s : Shared) (Q : Value → Shared → Prop) (E : Value → Shared → Prop), Q (.int (g i j) s.toks) { s with toks := s.toks + 1 } → wpAny (model X.prog X.w) X.A (f (.int i t) (.int j u)) Q E s) :
  OpR X f (rI0 fun i j => .int (g i j)) := by
 intro pins s σ H x y v u Q I rx ry h
 obtain ⟨i, j, rfl, rfl, q⟩ := h
 obtain ⟨t, rfl⟩ := rx
 obtain ⟨t', rfl⟩ := ry
 exact rule i j t t' s _ _ ⟨.int (g i j), H, I.tok _, ⟨_, rfl⟩, q⟩
theorem opB0 {f : Value → Value → Sem Value} {g : Int → Int → Bool}
  (rule : ∀ (i j : Int) (t u : Tok) (s : Shared) (Q : Value → Shared → Prop) (E : Value → Shared → Prop), Q (.bool (g i j)) s → wpAny (model X.prog X.w) X.A (f (.int i t) (.int j u)) Q E s) :
  OpR X f (rI0 fun i j => .bl (g i j)) := by
 intro pins s σ H x y v u Q I rx ry h
 obtain ⟨i, j, rfl, rfl, q⟩ := h
 obtain ⟨t, rfl⟩ := rx
 obtain ⟨t', rfl⟩ := ry
 exact rule i j t t' s _ _ ⟨.bl (g i j), H, I, rfl, q⟩
def CDiv (i j : Int) : Prop := 0 < j ∧ j < 1073741824
def CPow (i j : Int) : Prop := 0 ≤ j ∧ j ≤ 1000000 ∧ i.natAbs < 2 ^ 64
def CMul (i j : Int) : Prop := (-(2 ^ 64) < i ∧ i < 2 ^ 64) ∨ (-(2 ^ 64) < j ∧ j < 2 ^ 64)
theorem CMul.ok {i j : Int} (h : CMul i j) : IntMulOk i j := by
 rcases h with ⟨h1, h2⟩ | ⟨h1, h2⟩
 ·exact .of_left (intBits_le_64 h1 h2)
 ·exact .of_right (intBits_le_64 h1 h2)
theorem op_add : OpR X (binaryOp .Add) (rI0 fun i j => .int (i + j)) := opI0 fun _ _ _ _ _ _ _ q => add_int q
theorem op_sub : OpR X (binaryOp .Sub) (rI0 fun i j => .int (i - j)) := opI0 fun _ _ _ _ _ _ _ q => sub_int q
theorem op_mul : OpR X (binaryOp .Mult) (rI CMul fun i j => .int (i * j)) := opI fun _ _ _ _ _ _ _ hc q => mul_int q hc.ok
theorem op_fdiv : OpR X (binaryOp .FloorDiv) (rI CDiv fun i j => .int (i / j)) := opI fun i j _ _ _ _ _ hc q => by
 have h1 : (0 : Int) < j := hc.1
 have h2 : j < 1073741824 := hc.2
 exact floordiv_int (by omega) (by rw [Int.fdiv_eq_ediv_of_nonneg i (by omega)]; exact q) (.inl (PyProof.noPylong_small (by omega)))
theorem op_mod : OpR X (binaryOp .Mod) (rI (fun _ j => 0 < j) fun i j => .int (i % j)) := opI fun i j _ _ _ _ _ hc q => by
 have h1 : (0 : Int) < j := hc
 exact mod_int' (by omega) (by rw [Int.fmod_eq_emod_of_nonneg i (by omega)]; exact q)
theorem op_pow : OpR X (binaryOp .Pow) (rI CPow fun i j => .int (i ^ j.toNat)) := opI fun _ _ _ _ _ _ _ hc q => pow_int_small hc.1 hc.2.1 hc.2.2 q
theorem unI {f : Value → Sem Value} {g : Int → Int}
  (rule : ∀ (i : Int) (t : Tok) (s : Shared) (Q : Value → Shared → Prop) (E : Value → Shared → Prop), Q (.int (g i) s.toks) { s with toks := s.toks + 1 } → wpAny (model X.prog X.w) X.A (f (.int i t)) Q E s) :
  UnR X f (rU fun i => .int (g i)) := by
 intro pins s σ H x v Q I rx h
 obtain ⟨i, rfl, q⟩ := h
 obtain ⟨t, rfl⟩ := rx
 exact rule i t s _ _ ⟨.int (g i), H, I.tok _, ⟨_, rfl⟩, q⟩
theorem un_neg : UnR X (unaryOp .USub) (rU fun i => .int (-i)) := unI fun _ _ _ _ _ q => neg_int q
end
def scal : V → V → Bool
 | .non, .non => true | .non, .int _ => true | .int _, .non => true | .non, .bl _ => true | .bl _, .non => true | .non, .str _ => true | .str _, .non => true
 | .int _, .int _ => true | .bl _, .bl _ => true | .str _, .str _ => true | .byt _, .byt _ => true
 | .int _, .str _ => true | .str _, .int _ => true | .bl _, .str _ => true | .str _, .bl _ => true
 | _, _ => false
def rEq : R2 := fun x y H Q => scal x y = true ∧ Q (.bl (decide (x = y))) H
def rNe : R2 := fun x y H Q => scal x y = true ∧ Q (.bl (!decide (x = y))) H
theorem Zjq {i j : Int} : decide (V.int i = V.int j) = (i == j) := by
 rw [Bool.eq_iff_iff]
 simp
theorem dec_bl {i j : Bool} : decide (V.bl i = V.bl j) = (i == j) := by
 rw [Bool.eq_iff_iff]
 simp
theorem Zie {i j : Str} : decide (V.str i = V.str j) = (i == j) := by
 rw [Bool.eq_iff_iff]
 simp
theorem ZiA {i j : Array UInt8} : decide (V.byt i = V.byt j) = (i.toList == j.toList) := by
 rw [Bool.eq_iff_iff]
 cases i
 cases j
 simp
section
variable {X : Cx} {a b c : Expr} {ta tb tc : TE} {pos : Pos}
theorem ZaF {pins : List (Addr × Obj)} {σ : St} {H : Hp} {s : Shared} {Q : VK} {k k' : Bool} (I : Inv X pins σ H s) (q : Q (.bl k) H) (e : k = k') : EP X pins σ Q (.bool k') s := by
 subst e
 exact ⟨.bl k, H, I, rfl, q⟩
theorem op_eq : OpR X (compareOp .Eq) rEq := by
 intro pins s σ H x y v u Q I rx ry h
 obtain ⟨hs, q⟩ := h
 cases x with
 | non =>
  cases rx
  cases y with
  | non => cases ry; exact PySem.EqNone.eq_none_none (ZaF I q (by simp))
  | bl j => cases ry; exact PySem.EqNone.eq_none_bool (ZaF I q (by simp))
  | int j => obtain ⟨t', rfl⟩ := ry; exact PySem.EqNone.eq_none_int (ZaF I q (by simp))
  | str j => obtain ⟨t', rfl⟩ := ry; exact PySem.EqNone.eq_none_str (ZaF I q (by simp))
  | _ => exact absurd (show false = true from hs) Bool.false_ne_true
 | bl i =>
  cases rx
  cases y with
  | non => cases ry; exact PySem.EqNone.eq_bool_none (ZaF I q (by simp))
  | bl j => cases ry; exact eq_bool (ZaF I q dec_bl)
  | str j => obtain ⟨t', rfl⟩ := ry; exact PySem.EqMixed.eq_bool_str (ZaF I q (by simp))
  | _ => exact absurd (show false = true from hs) Bool.false_ne_true
 | int i =>
  obtain ⟨t, rfl⟩ := rx
  cases y with
  | non => cases ry; exact PySem.EqNone.eq_int_none (ZaF I q (by simp))
  | int j => obtain ⟨t', rfl⟩ := ry; exact eq_int (ZaF I q Zjq)
  | str j => obtain ⟨t', rfl⟩ := ry; exact PySem.EqMixed.eq_int_str (ZaF I q (by simp))
  | _ => exact absurd (show false = true from hs) Bool.false_ne_true
 | str i =>
  obtain ⟨t, rfl⟩ := rx
  cases y with
  | non => cases ry; exact PySem.EqNone.eq_str_none (ZaF I q (by simp))
  | bl j => cases ry; exact PySem.EqMixed.eq_str_bool (ZaF I q (by simp))
  | int j => obtain ⟨t', rfl⟩ := ry; exact PySem.EqMixed.eq_str_int (ZaF I q (by simp))
  | str j => obtain ⟨t', rfl⟩ := ry; exact eq_str (ZaF I q Zie)
  | _ => exact absurd (show false = true from hs) Bool.false_ne_true
 | byt i =>
  obtain ⟨t, rfl⟩ := rx
  cases y with
  | byt j => obtain ⟨t', rfl⟩ := ry; exact PySem.W.eq_bytes (ZaF I q ZiA)
  | _ => exact absurd (show false = true from hs) Bool.false_ne_true
 | _ => cases y <;> exact absurd (show false = true from hs) Bool.false_ne_true
theorem op_ne : OpR X (compareOp .NotEq) rNe := by
 intro pins s σ H x y v u Q I rx ry h
 obtain ⟨hs, q⟩ := h
 cases x with
 | non =>
  cases rx
  cases y with
  | non => cases ry; exact PySem.EqNone.ne_none_none (ZaF I q (by simp))
  | bl j => cases ry; exact PySem.EqNone.ne_none_bool (ZaF I q (by simp))
  | int j => obtain ⟨t', rfl⟩ := ry; exact PySem.EqNone.ne_none_int (ZaF I q (by simp))
  | str j => obtain ⟨t', rfl⟩ := ry; exact PySem.EqNone.ne_none_str (ZaF I q (by simp))
  | _ => exact absurd (show false = true from hs) Bool.false_ne_true
 | bl i =>
  cases rx
  cases y with
  | non => cases ry; exact PySem.EqNone.ne_bool_none (ZaF I q (by simp))
  | bl j => cases ry; exact ne_bool (ZaF I q (congrArg not dec_bl))
  | str j => obtain ⟨t', rfl⟩ := ry; exact PySem.EqMixed.ne_bool_str (ZaF I q (by simp))
  | _ => exact absurd (show false = true from hs) Bool.false_ne_true
 | int i =>
  obtain ⟨t, rfl⟩ := rx
  cases y with
  | non => cases ry; exact PySem.EqNone.ne_int_none (ZaF I q (by simp))
  | int j => obtain ⟨t', rfl⟩ := ry; exact ne_int (ZaF I q (congrArg not Zjq))
  | str j => obtain ⟨t', rfl⟩ := ry; exact PySem.EqMixed.ne_int_str (ZaF I q (by simp))
  | _ => exact absurd (show false = true from hs) Bool.false_ne_true
 | str i =>
  obtain ⟨t, rfl⟩ := rx
  cases y with
  | non => cases ry; exact PySem.EqNone.ne_str_none (ZaF I q (by simp))
  | bl j => cases ry; exact PySem.EqMixed.ne_str_bool (ZaF I q (by simp))
  | int j => obtain ⟨t', rfl⟩ := ry; exact PySem.EqMixed.ne_str_int (ZaF I q (by simp))
  | str j => obtain ⟨t', rfl⟩ := ry; exact ne_str (ZaF I q (congrArg not Zie))
  | _ => exact absurd (show false = true from hs) Bool.false_ne_true
 | byt i =>
  obtain ⟨t, rfl⟩ := rx
  cases y with
  | byt j => obtain ⟨t', rfl⟩ := ry; exact PySem.W.ne_bytes (ZaF I q (congrArg not ZiA))
  | _ => exact absurd (show false = true from hs) Bool.false_ne_true
 | _ => cases y <;> exact absurd (show false = true from hs) Bool.false_ne_true
theorem op_lt : OpR X (compareOp .Lt) (rI0 fun i j => .bl (decide (i < j))) := opB0 fun _ _ _ _ _ _ _ q => lt_int q
theorem op_le : OpR X (compareOp .LtE) (rI0 fun i j => .bl (decide (i ≤ j))) := opB0 fun _ _ _ _ _ _ _ q => le_int q
theorem op_gt : OpR X (compareOp .Gt) (rI0 fun i j => .bl (decide (j < i))) := opB0 fun _ _ _ _ _ _ _ q => gt_int q
theorem op_ge : OpR X (compareOp .GtE) (rI0 fun i j => .bl (decide (j ≤ i))) := opB0 fun _ _ _ _ _ _ _ q => ge_int q
theorem OpR.or {f : Value → Value → Sem Value} {r r' : R2} (h : OpR X f r) (h' : OpR X f r') : OpR X f (fun x y H Q => r x y H Q ∨ r' x y H Q) := by
 intro pins s σ H x y v u Q I rx ry q
 rcases q with q | q
 ·exact h pins s σ H x y v u Q I rx ry q
 ·exact h' pins s σ H x y v u Q I rx ry q
theorem Zca (b : Expr) {op : CmpOp} (h : op ≠ .In := by decide) (h2 : op ≠ .NotIn := by decide) : behindInMarks op b = false := by
 have e1 : (op == CmpOp.In) = false := by cases op <;> first | rfl | exact absurd rfl h
 have e2 : (op == CmpOp.NotIn) = false := by cases op <;> first | rfl | exact absurd rfl h2
 cases b <;> simp [behindInMarks, e1, e2]
theorem Zd1 {op : CmpOp} {r : R2} (ho : OpR X (compareOp op) r) (ha : PE X a ta) (hb : PE X b tb) (hm : behindInMarks op b = false) : PE X (.Compare a [op] [b] pos) (tOp r ta tb) := by
 intro pins s σ H Q I h
 exact wpAny_Compare1 (binT ha hb I h fun v u s2 x y H2 I2 rx ry q => ho pins s2 σ H2 x y v u Q I2 rx ry q) hm
def Zdl (t : TE) : TT := fun σ H Q => t σ H fun x H' => ∃ k, x = .bl k ∧ Q k H'
theorem Zb7 {op : CmpOp} {r : R2} (ho : OpR X (compareOp op) r) (ha : PE X a ta) (hb : PE X b tb) (hm : behindInMarks op b = false) : PT X (.Compare a [op] [b] pos) (Zdl (tOp r ta tb)) := by
 intro pins s σ H Q I h
 refine wpAny_isTrue_Compare1 (thn (ha pins s σ H _ I h) fun v s1 ⟨x, H1, I1, r1, q1⟩ => thn (hb pins s1 σ H1 _ I1 q1) fun u s2 ⟨y, H2, I2, r2, q2⟩ =>
  thn (ho pins s2 σ H2 x y v u _ I2 r1 r2 q2) fun c s3 ⟨z, H3, I3, r3, k, e, q3⟩ => ?_) hm
 subst e
 cases r3
 exact wpAny_truthy_bool ⟨H3, I3, q3⟩
def Zg8 (r r' : R2) (ta tb tc : TE) : TE := fun σ H Q => ta σ H fun x H1 => tb σ H1 fun y H2 => r x y H2 fun z H3 => ∃ k, z = .bl k ∧
 (if k = true then tc σ H3 fun w' H4 => r' y w' H4 Q else Q (.bl false) H3)
theorem ZkG {op op' : CmpOp} {r r' : R2} (ho : OpR X (compareOp op) r) (ho' : OpR X (compareOp op') r') (ha : PE X a ta) (hb : PE X b tb) (hc : PE X c tc)
  (hm : lastMarks [op, op'] [b, c] = false := by with_unfolding_all rfl) : PE X (.Compare a [op, op'] [b, c] pos) (Zg8 r r' ta tb tc) := by
 intro pins s σ H Q I h
 refine Compare_chain (thn (ha pins s σ H _ I h) fun v s1 ⟨x, H1, I1, r1, q1⟩ => chain_link (thn (hb pins s1 σ H1 _ I1 q1) fun u s2 ⟨y, H2, I2, r2, q2⟩ =>
  thn (ho pins s2 σ H2 x y v u _ I2 r1 r2 q2) fun d s3 ⟨z, H3, I3, r3, k, e, q3⟩ => ?_)) hm
 subst e
 cases r3
 refine wpAny_truthy_bool ?_
 cases k with
 | false => exact ite_ff ⟨.bl false, H3, I3, rfl, q3⟩
 | true => exact ite_tt (chain_last (thn (hc pins s3 σ H3 _ I3 q3) fun w' s4 ⟨z', H4, I4, r4, q4⟩ => ho' pins s4 σ H4 y z' u w' Q I4 r2 r4 q4))
theorem Zfs : (sizeLine : Nat) < 2 ^ 63 := by rw [sizeLine_eq]; decide
theorem ZhY : OpR X (binaryOp .Add) (fun x y H Q => ∃ i j, x = .str i ∧ y = .str j ∧ i.length + j.length ≤ sizeLine ∧ Q (.str (i ++ j)) H) := by
 intro pins s σ H x y v u Q I rx ry h
 obtain ⟨i, j, rfl, rfl, hz, q⟩ := h
 obtain ⟨t, rfl⟩ := rx
 obtain ⟨t', rfl⟩ := ry
 exact add_str (fun t' tk => ⟨.str (i ++ j), H, I.tok _, ⟨_, rfl⟩, q⟩) hz
theorem Zcc {x : V} {us : List Value} (r : Vals [x] us) : ∃ u, us = [u] ∧ RelV x u := by
 cases r with
 | cons r1 r2 => cases r2; exact ⟨_, rfl, r1⟩
theorem ZjN {x y : V} {us : List Value} (r : Vals [x, y] us) : ∃ u w', us = [u, w'] ∧ RelV x u ∧ RelV y w' := by
 cases r with
 | cons r1 r2 =>
  cases r2 with
  | cons r3 r4 => cases r4; exact ⟨_, _, rfl, r1, r3⟩
theorem ZkW : CallR X (.builtin "abs") (fun xs H Q => ∃ i, xs = [.int i] ∧ Q (.int (if i < 0 then -i else i)) H) := by
 intro pins s σ H xs us Q I r h
 obtain ⟨i, rfl, q⟩ := h
 obtain ⟨u, rfl, t, rfl⟩ := Zcc r
 exact call_abs_int fun u tk => ⟨.int (if i < 0 then -i else i), H, I.tok _, ⟨_, rfl⟩, q⟩
theorem Zic (hc : X.calm = true) : CallR X (.builtin "max") (fun xs H Q => ∃ i j, xs = [.int i, .int j] ∧ Q (.int (if j > i then j else i)) H) := by
 intro pins s σ H xs us Q I r h
 obtain ⟨i, j, rfl, q⟩ := h
 obtain ⟨u, w', rfl, ⟨t, rfl⟩, ⟨t', rfl⟩⟩ := ZjN r
 refine max_two_ints (I.ok.hd hc) fun h' tk k => ⟨_, H, I.kept k, ?_, q⟩
 by_cases hj : j > i
 ·rw [if_pos hj, if_pos hj]; exact ⟨_, rfl⟩
 ·rw [if_neg hj, if_neg hj]; exact ⟨_, rfl⟩
theorem Zib (hc : X.calm = true) : CallR X (.builtin "min") (fun xs H Q => ∃ i j, xs = [.int i, .int j] ∧ Q (.int (if j < i then j else i)) H) := by
 intro pins s σ H xs us Q I r h
 obtain ⟨i, j, rfl, q⟩ := h
 obtain ⟨u, w', rfl, ⟨t, rfl⟩, ⟨t', rfl⟩⟩ := ZjN r
 refine min_two_ints (I.ok.hd hc) fun h' tk k => ⟨_, H, I.kept k, ?_, q⟩
 by_cases hj : j < i
 ·rw [if_pos hj, if_pos hj]; exact ⟨_, rfl⟩
 ·rw [if_neg hj, if_neg hj]; exact ⟨_, rfl⟩
theorem Zjh : CallR X (.type "int") (fun xs H Q => (∃ i, xs = [.int i] ∧ Q (.int i) H) ∨ ∃ k, xs = [.bl k] ∧ Q (.int (if k then 1 else 0)) H) := by
 intro pins s σ H xs us Q I r h
 rcases h with ⟨i, rfl, q⟩ | ⟨k, rfl, q⟩
 ·obtain ⟨u, rfl, t, rfl⟩ := Zcc r
  exact call_int_int ⟨.int i, H, I, ⟨_, rfl⟩, q⟩
 ·obtain ⟨u, rfl, r1⟩ := Zcc r
  cases r1
  exact call_int_bool ⟨.int (if k then 1 else 0), H, I.tok _, ⟨_, rfl⟩, q⟩
end
end L2
namespace L2
open PySem PySem.Spec PyProof.Rows
structure ObjM (h : Heap) (x dx C : Addr) (mA : Str → Option Value) : Prop where
 obj : h.get? x = some (PySem.W.instObj C dx)
 ns : h.Ns1 dx mA
 ne : dx ≠ x
theorem Zil {h : Heap} {dx : Addr} {mA : Str → Option Value} (n : h.Ns1 dx mA) : ∃ od, h.get? dx = some od ∧ ∀ name, PySem.W.lookIn name od = some (mA name) := by
 obtain ⟨o, es, ep, ho, hd, hk, _, hm⟩ := n
 refine ⟨o, ho, fun name => ?_⟩
 have e := hm name
 unfold nsFind findBy at e
 rw [← Array.find?_toList] at e
 unfold PySem.W.lookIn
 rw [hd]
 dsimp only
 split
 ·rename_i y q
  rw [q] at e
  exact congrArg some e
 ·rename_i q
  rw [q] at e
  have a : es.toList.any (·.refKey) = false := by
   rw [List.any_eq_false]
   intro y hy
   obtain ⟨z, t, hkey⟩ := hk y (Array.mem_toList_iff.mp hy)
   simp [DictEntry.refKey, hkey]
  have a' : ¬ es.toList.any (·.refKey) = true := by rw [a]; exact Bool.false_ne_true
  rw [if_neg a']
  exact congrArg some e
theorem ObjM.look {h : Heap} {x dx C : Addr} {mA : Str → Option Value} (I : ObjM h x dx C mA) : ∃ od, PySem.W.InstAt h x (PySem.W.instObj C dx) C (some od) ∧ ∀ name, PySem.W.lookIn name od = some (mA name) :=
 let ⟨od, ho, hl⟩ := Zil I.ns
 ⟨od, ⟨I.obj, rfl, rfl, ho⟩, hl⟩
section
variable {prog : Program} {w : World} {A : Around} {E : Value → Shared → Prop} {s : Shared} {K : PySem.W.Frag} {x dx C f : Addr} {mA : Str → Option Value} {name : Str} {v : Value}
theorem get_map {expr : Bool} {Q : Value → Shared → Prop} (X : K.In s.heap) (I : ObjM s.heap x dx C mA) (hg : PySem.W.plainGet K C name = true) (hh : PySem.W.hasDictIn K C = true)
  (ha : PySem.W.findIn K (.ref C) name = some none) (hv : mA name = some v) (hv' : PySem.W.handedIn v = true) (h : Q v { s with toks := s.toks + 1 }) :
  wpAny (model prog w) A (getAttr (.ref x) name expr) Q E s := by
 obtain ⟨od, J, hl⟩ := I.look
 exact PySem.W.get_value X J (PySem.W.plainGet_of hg).1 (PySem.W.findObj_own hh ha rfl (by rw [hl, hv])) hv' h
theorem ZlN {pl : Sem Bool} {Q : Value × List Value → Shared → Prop} (X : K.In s.heap) (I : ObjM s.heap x dx C mA) (hg : PySem.W.plainGet K C name = true)
  (hf : PySem.W.findIn K (.ref C) name = some (some (.ref f))) (ht : PySem.W.isFn K (.ref f) = true) (hv : mA name = none) (h : Q (.ref f, [.ref x]) s) :
  wpAny (model prog w) A (getMethod (.ref x) name pl) Q E s := by
 obtain ⟨od, J, hl⟩ := I.look
 exact PySem.W.method_fn X J (PySem.W.plainGet_of hg).1 (PySem.W.plainGet_of hg).2 hf (beq_iff_eq.mp ht) (by show (PySem.W.lookIn name od).map (·.isSome) = some false; rw [hl, hv]; rfl) h
theorem set_map {ns : List Str} {Q : Unit → Shared → Prop} (X : K.In s.heap) (I : ObjM s.heap x dx C mA)
  (hs : PySem.W.findIn K (.ref C) "__setattr__" = some (some (.builtin "object.__setattr__"))) (hp : PySem.W.plainOver K C = true) (ht : PySem.W.takerIn K C name = some none) (hh : PySem.W.hasDictIn K C = true)
  (hw : PySem.Within mA ns) (hsz : ns.length ≤ sizeLine)
  (h : ∀ h', ObjM h' x dx C (fun y => if y = name then some v else mA y) → Heap.SameBut dx s.heap h' → Q () { s with heap := h', toks := s.toks + 2 }) :
  wpAny (model prog w) A (setAttr (.ref x) name v) Q E s := by
 obtain ⟨od, J, hl⟩ := I.look
 refine PySem.W.set_plain X J hs (PySem.W.osa_open (s := { s with toks := s.toks + 1 }) (r := none) X J hp ht fun b => ?_)
 obtain ⟨cd, hc, hd'⟩ := PySem.W.any_some hh
 have hx : s.heap.get? x = some ⟨.ref C, some dx, .plain, #[]⟩ := I.obj
 refine wpAny_bind (wpAny_pure (wpAny_bind (wpAny_bind (wpAny_loadPart hx (wpAny_bind (PySem.W.Looks.here (s := { s with toks := s.toks + 1 }) (PySem.W.looks_clsIn X hc) ?_))))))
 rw [hd']
 refine wpAny_pure (a := some dx) (wpAny_bind (wpAny_pure (wpAny_bind ?_)))
 refine wpAny_nsSet1 (s := { s with toks := s.toks + 1 }) I.ns fun h' hn2 hs2 => ?_
 obtain ⟨oD, esD, epD, hoD, hdD, hcD⟩ := hn2.count (PySem.Within.cons name v hw)
 refine wpAny_bind (wpAny_lookBehind hoD (by rw [hdD]; exact pastItsLine_dict (Nat.le_trans hcD (by rw [List.length_cons]; omega))) ?_)
 exact wpAny_pure (h _ ⟨(hs2.2 _ (Ne.symm I.ne)).trans I.obj, hn2, I.ne⟩ hs2)
theorem Zka {R : Result → Shared → Prop} {vs : List Value} {kw : List (Str × Value)} (X : K.In s.heap) (hm : PySem.W.makesIn K C = true)
  (hi : PySem.W.findIn K (.ref C) "__init__" = some (some (.ref f))) (hf : PySem.W.typeIn K (.ref f) = some (.type "function"))
  (h : codeAny (model prog w) (A.under (.builtin "type.__call__" ⟨.ref C :: vs, kw⟩)) (.call (.ref f) ⟨.ref (s.heap.objs.size + 1) :: vs, kw⟩) (PySem.W.InitBack (s.heap.objs.size + 1) R)
   { s with heap := (s.heap.push PySem.W.emptyDict).push (PySem.W.instObj C s.heap.objs.size) }) :
  codeAny (model prog w) A (.call (.ref C) ⟨vs, kw⟩) R s := by
 obtain ⟨hh, g, d, t, os⟩ := s
 exact PySem.W.make_core (PySem.W.makes_of X hm) (PySem.W.looks_findIn X hi) (fun self => PySem.W.bind_fn X self hf) (.inl rfl) h
end
def ZfG (f : Str) (v : V) : List (Str × V) → List (Str × V)
 | [] => [(f, v)]
 | (g, x) :: r => if g = f then (g, v) :: r else (g, x) :: ZfG f v r
theorem ZdD (f g : Str) (v : V) : ∀ fs : List (Str × V), (ZfG f v fs).lookup g = if g = f then some v else fs.lookup g
 | [] => by
  show List.lookup g [(f, v)] = _
  by_cases h : g = f
  ·have hb : (g == f) = true := beq_iff_eq.mpr h
   simp only [List.lookup, hb, if_pos h]
  ·have hb : (g == f) = false := beq_eq_false_iff_ne.mpr h
   simp only [List.lookup, hb, if_neg h]
 | (k, x) :: r => by
  have ih := ZdD f g v r
  rw [show ZfG f v ((k, x) :: r) = (if k = f then (k, v) :: r else (k, x) :: ZfG f v r) from rfl]
  by_cases hk : k = f
  ·rw [if_pos hk]
   by_cases h : g = k
   ·have hb : (g == k) = true := beq_iff_eq.mpr h
    simp only [List.lookup, hb, if_pos (h.trans hk)]
   ·have hb : (g == k) = false := beq_eq_false_iff_ne.mpr h
    simp only [List.lookup, hb, if_neg (fun e : g = f => h (e.trans hk.symm))]
  ·rw [if_neg hk]
   by_cases h : g = k
   ·have hb : (g == k) = true := beq_iff_eq.mpr h
    simp only [List.lookup, hb, if_neg (fun e : g = f => hk (h.symm.trans e))]
   ·have hb : (g == k) = false := beq_eq_false_iff_ne.mpr h
    simp only [List.lookup, hb]
    exact ih
theorem ZdC (f : Str) (v : V) : ∀ fs : List (Str × V), f ∈ (ZfG f v fs).map (·.1) ∧ ∀ g, g ∈ fs.map (·.1) → g ∈ (ZfG f v fs).map (·.1)
 | [] => ⟨by simp [ZfG], fun g h => by simp at h⟩
 | (k, x) :: r => by
  obtain ⟨i1, i2⟩ := ZdC f v r
  rw [show ZfG f v ((k, x) :: r) = (if k = f then (k, v) :: r else (k, x) :: ZfG f v r) from rfl]
  by_cases hk : k = f
  ·rw [if_pos hk]
   subst hk
   exact ⟨by simp, fun g h => by simpa using h⟩
  ·rw [if_neg hk]
   refine ⟨?_, fun g h => ?_⟩
   ·rw [List.map_cons]
    exact List.mem_cons_of_mem _ i1
   ·rw [List.map_cons] at h ⊢
    rcases List.mem_cons.mp h with e | e
    ·exact List.mem_cons.mpr (.inl e)
    ·exact List.mem_cons_of_mem _ (i2 g e)
theorem Zd3 (f : Str) (v : V) : ∀ fs : List (Str × V), (ZfG f v fs).length ≤ fs.length + 1
 | [] => by simp [ZfG]
 | (k, x) :: r => by
  have ih := Zd3 f v r
  rw [show ZfG f v ((k, x) :: r) = (if k = f then (k, v) :: r else (k, x) :: ZfG f v r) from rfl]
  by_cases hk : k = f
  ·rw [if_pos hk, List.length_cons, List.length_cons]; omega
  ·rw [if_neg hk, List.length_cons, List.length_cons]; omega
theorem RelO.some_of {v : V} {o : Option Value} (r : RelO (some v) o) : ∃ u, o = some u ∧ RelV v u := by
 cases o with
 | none => exact (show False from r).elim
 | some u => exact ⟨u, rfl, r⟩
theorem RelO.none_of {o : Option Value} (r : RelO none o) : o = none := by
 cases o with
 | none => rfl
 | some u => exact (show False from r).elim
theorem ZiU {v : V} {u : Value} (r : RelV v u) : PySem.W.handedIn u = true := by
 cases v with
 | non => cases (show u = Value.none from r); rfl
 | bl b => cases (show u = Value.bool b from r); rfl
 | int i => obtain ⟨t, e⟩ := (show ∃ t, u = Value.int i t from r); cases e; rfl
 | str x => obtain ⟨t, e⟩ := (show ∃ t, u = Value.str x t from r); cases e; rfl
 | byt b => obtain ⟨t, e⟩ := (show ∃ t, u = Value.bytes b t from r); cases e; rfl
 | flt b => obtain ⟨t, e⟩ := (show ∃ t, u = Value.float b t from r); cases e; rfl
 | ref a => cases (show u = Value.ref a from r); rfl
 | ty n => cases (show u = Value.type n from r); rfl
section
variable {P : Program} {w : World} {H H' : Hp} {h h' : Heap} {a C dx : Addr} {fs fs' : List (Str × V)}
theorem ZeZ (hok : HOk P w H h) (e : H a = some (.ins C dx fs)) : ∃ mA, ObjM h a dx C mA ∧ (∀ f, RelO (fs.lookup f) (mA f)) ∧ PySem.Within mA (fs.map (·.1)) ∧ fs.length ≤ 1000 ∧ H dx = some (.own a) := by
 obtain ⟨d, z, ne, ob, mA, n, r, q⟩ := (show ObjOk P w H h a (.ins C dx fs) from hok a _ e)
 exact ⟨mA, ⟨ob, n, ne⟩, r, q, z, d⟩
end
structure Cls (K : PySem.W.Frag) (C : Addr) : Prop where
 pg : PySem.W.plainGet K C Str.empty = true
 hd : PySem.W.hasDictIn K C = true
 po : PySem.W.plainOver K C = true
 sa : PySem.W.findIn K (.ref C) "__setattr__" = some (some (.builtin "object.__setattr__"))
theorem Cls.get {K : PySem.W.Frag} {C : Addr} (c : Cls K C) (f : Str) : PySem.W.plainGet K C f = true := c.pg
def NoAttr (K : PySem.W.Frag) (C : Addr) (f : Str) : Prop := PySem.W.findIn K (.ref C) f = some none
theorem NoAttr.taker {K : PySem.W.Frag} {C : Addr} {f : Str} (n : NoAttr K C f) : PySem.W.takerIn K C f = some none := by
 unfold PySem.W.takerIn
 rw [show PySem.W.findIn K (.ref C) f = some none from n]
 rfl
structure Con (K : PySem.W.Frag) (C : Addr) (f : Str) (v : V) (u : Value) : Prop where
 at_ : PySem.W.findIn K (.ref C) f = some (some u)
 rel : RelV v u
 get : PySem.W.specialIn K u "__get__" = some none
 cp : PySem.W.copiedNames.contains f = false
structure Meth (K : PySem.W.Frag) (C : Addr) (m : Str) (f : Addr) : Prop where
 at_ : PySem.W.findIn K (.ref C) m = some (some (.ref f))
 fn : PySem.W.isFn K (.ref f) = true
 kp : PySem.W.keepIn K (.ref f) = true
section
variable {X : Cx} {pins : List (Addr × Obj)} {σ : St} {H : Hp} {s : Shared} {a C dx : Addr} {fs : List (Str × V)} {f : Str} {v : V} {A : Around} {E : Value → Shared → Prop}
theorem Zhy {b : Bool} {Q : Value → Shared → Prop} (I : Inv X pins σ H s) (e : H a = some (.ins C dx fs)) (c : Cls X.K C) (n : NoAttr X.K C f) (l : fs.lookup f = some v)
  (h : ∀ u s', Inv X pins σ H s' → RelV v u → Q u s') : wpAny (model X.prog X.w) A (getAttr (.ref a) f b) Q E s := by
 obtain ⟨mA, O, r, _, _, _⟩ := ZeZ I.hok e
 obtain ⟨u, hu, ru⟩ := RelO.some_of (v := v) (o := mA f) (by rw [← l]; exact r f)
 exact get_map I.kIn O (c.get f) c.hd n hu (ZiU ru) (h u _ (I.tok _) ru)
theorem Zeu {m : Str} {g : Addr} {pl : Sem Bool} {Q : Value × List Value → Shared → Prop} (I : Inv X pins σ H s) (e : H a = some (.ins C dx fs)) (c : Cls X.K C) (k : Meth X.K C m g) (l : fs.lookup m = none)
  (h : Q (.ref g, [.ref a]) s) : wpAny (model X.prog X.w) A (getMethod (.ref a) m pl) Q E s := by
 obtain ⟨mA, O, r, _, _, _⟩ := ZeZ I.hok e
 have hn : mA m = none := RelO.none_of (by rw [← l]; exact r m)
 exact ZlN I.kIn O (c.get m) k.at_ k.fn hn h
theorem Zhp {y : V} {u : Value} {Q : Unit → Shared → Prop} (I : Inv X pins σ H s) (e : H a = some (.ins C dx fs)) (c : Cls X.K C) (n : NoAttr X.K C f) (hl : fs.length < 1000) (ry : RelV y u)
  (h : ∀ s', Inv X pins σ (upd H a (.ins C dx (ZfG f y fs))) s' → Q () s') : wpAny (model X.prog X.w) A (setAttr (.ref a) f u) Q E s := by
 obtain ⟨mA, O, r, wi, _, ho⟩ := ZeZ I.hok e
 have hz : (fs.map (·.1)).length ≤ sizeLine := by rw [List.length_map, sizeLine_eq]; omega
 refine set_map I.kIn O c.sa c.po n.taker c.hd wi hz fun h' O' sb => h _ ?_
 have hd : ∃ o, h'.get? dx = some o := let ⟨o, _, _, e', _⟩ := O'.ns; ⟨o, e'⟩
 refine I.write (x := a) (e := dx) (by rw [e]; exact True.intro) (.inr ho) (fun b q hb z => (sb.2 b hb).trans z) hd ?_
 refine ⟨by rw [Zae O.ne]; exact ho, ?_, O.ne, O'.obj, _, O'.ns, fun g => ?_, fun g hg => ?_⟩
 ·have := Zd3 f y fs; omega
 ·show RelO ((ZfG f y fs).lookup g) (if g = f then some u else mA g)
  rw [ZdD]
  by_cases q : g = f
  ·rw [if_pos q, if_pos q]; exact ry
  ·rw [if_neg q, if_neg q]; exact r g
 ·by_cases q : g = f
  ·rw [q]; exact (ZdC f y fs).1
  ·refine (ZdC f y fs).2 g (wi g fun z => hg ?_)
   show (if g = f then some u else mA g) = none
   rw [if_neg q]; exact z
theorem Inv.made (I : Inv X pins σ H s) : Inv X pins σ (upd (upd H s.heap.objs.size (.own (s.heap.objs.size + 1))) (s.heap.objs.size + 1) (.ins C s.heap.objs.size []))
  { s with heap := (s.heap.push PySem.W.emptyDict).push (PySem.W.instObj C s.heap.objs.size) } := by
 have e1 : (s.heap.push PySem.W.emptyDict).get? s.heap.objs.size = some PySem.W.emptyDict := Heap.get?_push_size s.heap rfl
 have e2 : ((s.heap.push PySem.W.emptyDict).push (PySem.W.instObj C s.heap.objs.size)).get? (s.heap.objs.size + 1) = some (PySem.W.instObj C s.heap.objs.size) := by
  have := Heap.get?_push_size (s.heap.push PySem.W.emptyDict) (o := PySem.W.instObj C s.heap.objs.size) rfl
  rwa [Heap.size_push] at this
 have e3 : (s.heap.push PySem.W.emptyDict).Ns s.heap.objs.size (fun _ => none) := ⟨PySem.W.emptyDict, #[], _, e1, rfl, (fun e he => absurd he (by simp)), fun _ => rfl⟩
 have I1 := I.laid (a := s.heap.objs.size) (o := .own (s.heap.objs.size + 1)) (h' := s.heap.push PySem.W.emptyDict) (t' := s.toks) (fun b u q => Heap.get?_push_of_some _ q) (Nat.le_refl _) ⟨_, e1⟩
 refine I1.laid (a := s.heap.objs.size + 1) (o := .ins C s.heap.objs.size []) (t' := s.toks) (fun b u q => Heap.get?_push_of_some _ q) (Nat.le_of_eq (Heap.size_push _ _)) ?_
 have ne : s.heap.objs.size ≠ s.heap.objs.size + 1 := Nat.ne_of_lt (Nat.lt_succ_self _)
 refine ⟨by rw [Zae ne, upd_same], Nat.zero_le _, ne, e2, fun _ => none, (Heap.Ns1.of_empty e3).at fun o q => Heap.get?_push_of_some _ q, fun _ => True.intro, fun y hy => absurd rfl hy⟩
theorem attr_of {prog : Program} {w : World} {env : Env} {e : Expr} {f : Str} {pos : Pos} {s : Shared} {Q : Value → Shared → Prop} (hb : attributeBase e f env (eval e env) = eval e env)
  (h : wpAny (model prog w) A (eval e env) (fun o s₁ => wpAny (model prog w) A (getAttr o f true) Q E s₁) E s) : wpAny (model prog w) A (eval (.Attribute e f pos) env) Q E s :=
 Attribute_any_ h (by rw [arm_eval_Attribute, hb])
end
def tFld (K : PySem.W.Frag) (ta : TE) (f : Str) : TE := fun σ H Q => ta σ H fun x H1 => ∃ a C dx fs v, x = .ref a ∧ H1 a = some (.ins C dx fs) ∧ Cls K C ∧ NoAttr K C f ∧ fs.lookup f = some v ∧ Q v H1
def sFld (K : PySem.W.Frag) (ta tv : TE) (f : Str) : TS := fun D σ H => tv σ H fun y H1 => ta σ H1 fun x H2 => ∃ a C dx fs, x = .ref a ∧ H2 a = some (.ins C dx fs) ∧ Cls K C ∧ NoAttr K C f ∧ fs.length < 1000 ∧
 D.nx σ (upd H2 a (.ins C dx (ZfG f y fs)))
section
variable {X : Cx} {o e value : Expr} {f : Str} {pos pos' tpos : Pos} {ta tv : TE}
theorem pe_fld (he : PE X e ta) (hb : attributeBase e f X.env (eval e X.env) = eval e X.env) : PE X (.Attribute e f pos) (tFld X.K ta f) := by
 intro pins s σ H Q I h
 refine attr_of hb (thn (he pins s σ H _ I h) fun u s1 ⟨x, H1, I1, rx, a, C, dx, fs, v, ex, ea, c, n, l, q⟩ => ?_)
 subst ex
 obtain rfl : u = Value.ref a := rx
 exact Zhy I1 ea c n l fun u' s2 I2 ru => ⟨v, H1, I2, ru, q⟩
theorem ps_fld (ha : PE X o ta) (hv : PE X value tv) (hs : swapsWith value (some (.Attribute o f pos')) pos.line X.env = pure false) : PS X (.Assign [.Attribute o f pos'] value pos) (sFld X.K ta tv f) := by
 intro pins s σ H D I h
 refine plainObj_wpAny_Assign_Attribute (thn (hv pins s σ H _ I h) fun u s1 ⟨y, H1, I1, ry, q⟩ => thn (ha pins s1 σ H1 _ I1 q) fun ov s2 ⟨x, H2, I2, rx, a, C, dx, fs, ex, ea, c, n, l, q2⟩ => ?_) hs
 subst ex
 obtain rfl : ov = Value.ref a := rx
 exact Zhp I2 ea c n l ry fun s3 I3 => ⟨σ, _, I3, q2⟩
end
section
variable {X : Cx} {pins : List (Addr × Obj)} {σ : St} {H : Hp} {s : Shared} {A : Around} {E : Value → Shared → Prop} {Q : Value → Shared → Prop} {c : Value} {b : Bool}
inductive TyOf (K : PySem.W.Frag) (H : Hp) : V → Value → Prop where
 | non : TyOf K H .non (.type "NoneType")
 | bl (x : Bool) : TyOf K H (.bl x) (.type "bool")
 | int (i : Int) : TyOf K H (.int i) (.type "int")
 | str (x : Str) : TyOf K H (.str x) (.type "str")
 | flt (x : UInt64) : TyOf K H (.flt x) (.type "float")
 | lst {a : Addr} {xs : List V} (e : H a = some (.lst xs)) : TyOf K H (.ref a) (.type "list")
 | frz {a : Addr} {o : Obj} {xs : List V} (e : H a = some (.frz o (.lst xs))) : TyOf K H (.ref a) (.type "list")
 | tup {a : Addr} {xs : List V} (e : H a = some (.tup xs)) : TyOf K H (.ref a) (.type "tuple")
 | dK {a : Addr} {kvs : List (Key × V)} (e : H a = some (.dK kvs)) : TyOf K H (.ref a) (.type "dict")
 | dT {a : Addr} {kvs : List (List Key × V)} (e : H a = some (.dT kvs)) : TyOf K H (.ref a) (.type "dict")
 | ins {a C dx : Addr} {fs : List (Str × V)} (e : H a = some (.ins C dx fs)) (cl : Cls K C) (ha : PySem.W.findIn K (.ref C) "__class__" = some (some (.builtin "object.__class__")))
   (hn : PySem.W.specialIn K (.builtin "object.__class__") "__get__" = some (some (.builtin "getset_descriptor.__get__"))) (htk : PySem.W.takesIn K (.builtin "object.__class__") = some true)
   (hm : PySem.W.mroIn K C (.type "object") = some true) : TyOf K H (.ref a) (.ref C)
theorem ZjE {x : V} {u t : Value} (I : Inv X pins σ H s) (rx : RelV x u) (ty : TyOf X.K H x t) (e : PySem.W.kitOne X.K t c = some b) (h : ∀ tk, Q (.bool b) { s with toks := tk }) :
  wpAny (model X.prog X.w) A (call (.builtin "isinstance") [u, c]) Q E s := by
 cases ty with
 | non => cases (show u = Value.none from rx); exact PySem.W.kia_one PySem.W.kitx_none I.kIn True.intro e (fun z => nomatch z) h
 | bl y => cases (show u = Value.bool y from rx); exact PySem.W.kia_one PySem.W.kitx_bool I.kIn True.intro e (fun z => nomatch z) h
 | int i => obtain ⟨t, q⟩ := (show ∃ t, u = Value.int i t from rx); cases q; exact PySem.W.kia_one PySem.W.kitx_int I.kIn True.intro e (fun z => nomatch z) h
 | str y => obtain ⟨t, q⟩ := (show ∃ t, u = Value.str y t from rx); cases q; exact PySem.W.kia_one PySem.W.kitx_str I.kIn True.intro e (fun z => nomatch z) h
 | flt y => obtain ⟨t, q⟩ := (show ∃ t, u = Value.float y t from rx); cases q; exact PySem.W.kia_one PySem.W.kitx_float I.kIn True.intro e (fun z => nomatch z) h
 | @lst a xs ea =>
  cases (show u = Value.ref a from rx)
  obtain ⟨_, _, n, _, h1⟩ := (show ObjOk X.prog X.w H s.heap a (.lst xs) from I.hok a _ ea)
  exact PySem.W.kia_one PySem.W.kitx_list I.kIn ⟨_, h1, rfl⟩ e (fun z => nomatch z) h
 | @frz a ob xs ea =>
  cases (show u = Value.ref a from rx)
  obtain ⟨_, _, _, n, _, h1⟩ := (show ObjOk X.prog X.w H s.heap a (.frz ob (.lst xs)) from I.hok a _ ea)
  exact PySem.W.kia_one PySem.W.kitx_list I.kIn ⟨_, h1, rfl⟩ e (fun z => nomatch z) h
 | @tup a xs ea =>
  cases (show u = Value.ref a from rx)
  obtain ⟨_, _, _, p⟩ := (show ObjOk X.prog X.w H s.heap a (.tup xs) from I.hok a _ ea)
  obtain ⟨o, h1, h2, _⟩ := p
  exact PySem.W.kia_one PySem.W.kitx_tuple I.kIn ⟨o, h1, h2⟩ e (fun z => nomatch z) h
 | @dK a kvs ea =>
  cases (show u = Value.ref a from rx)
  obtain ⟨_, _, vs, _, p⟩ := (show ObjOk X.prog X.w H s.heap a (.dK kvs) from I.hok a _ ea)
  obtain ⟨o, es, ep, h1, h2, _⟩ := p
  exact PySem.W.kia_one PySem.W.kitx_dict I.kIn ⟨o, h1, h2.1⟩ e (fun z => nomatch z) h
 | @dT a kvs ea =>
  cases (show u = Value.ref a from rx)
  obtain ⟨_, _, xs, _, o, es, ep, h1, h2, _⟩ := (show ObjOk X.prog X.w H s.heap a (.dT kvs) from I.hok a _ ea)
  exact PySem.W.kia_one PySem.W.kitx_dict I.kIn ⟨o, h1, h2.1⟩ e (fun z => nomatch z) h
 | @ins a C dx fs ea cl ha hn htk hm =>
  cases (show u = Value.ref a from rx)
  obtain ⟨mA, O, _⟩ := ZeZ I.hok ea
  obtain ⟨od, J, _⟩ := O.look
  exact PySem.W.kia_one (PySem.W.kitx_own (cl.get _) cl.hd ha hn htk hm) I.kIn J e (fun z => nomatch z) h
end
end L2
namespace L2
open PySem PySem.Spec PyProof.Rows
structure Room (k : Nat) (A : Around) : Prop where
 hd : A.handled = none
 dp : A.depth + 3 * k + 5 < recursionLimit
 un : A.units + 16 * k + 200 < cLine
theorem Room.mono {j k : Nat} {A : Around} (r : Room k A) (h : j ≤ k) : Room j A := ⟨r.hd, by have := r.dp; omega, by have := r.un; omega⟩
theorem Room.deeper {k : Nat} {A : Around} (r : Room (k + 1) A) (env : Env) : Room k (A.deeper env) :=
 ⟨r.hd, by have := r.dp; show A.depth + 1 + 3 * k + 5 < _; omega, by have := r.un; show A.units + 3 + 16 * k + 200 < _; omega⟩
theorem Room.in1 {k : Nat} {A : Around} (r : Room (k + 1) A) : Room k A.in1 :=
 ⟨r.hd, by have := r.dp; show A.depth + 3 * k + 5 < _; omega, by have := r.un; show A.units + 1 + 16 * k + 200 < _; omega⟩
theorem Zhf {A : Around} {C : Addr} {us : List Value} {kw : List (Str × Value)} : (A.under (.builtin "type.__call__" ⟨.ref C :: us, kw⟩)).depth = A.depth + 1 := by
 first | rfl | simp [Around.under, Code.weight, Code.isCreation, Code.isGuard, Code.isCaller, Code.frames, Code.isFrame, guardIds]
theorem Zhm {A : Around} {C : Addr} {us : List Value} {kw : List (Str × Value)} : (A.under (.builtin "type.__call__" ⟨.ref C :: us, kw⟩)).units = A.units + 1 := by
 first | rfl | simp [Around.under, Code.cUnits, Code.frames, Code.isFrame]
theorem Room.make {k : Nat} {A : Around} (r : Room (k + 1) A) (C : Addr) (us : List Value) (kw : List (Str × Value)) : Room k (A.under (.builtin "type.__call__" ⟨.ref C :: us, kw⟩)) :=
 ⟨r.hd, by have := r.dp; rw [Zhf]; omega, by have := r.un; rw [Zhm]; omega⟩
theorem Room.depth {k : Nat} {A : Around} (r : Room k A) : A.depth < recursionLimit := by have := r.dp; omega
theorem Room.units {k : Nat} {A : Around} (r : Room k A) : A.units + 64 < cLine := by have := r.un; omega
def tNil : TA := fun _ H Q => Q [] H
def ZhL (ta : TE) (tr : TA) : TA := fun σ H Q => ta σ H fun x H1 => tr σ H1 fun xs H2 => Q (x :: xs) H2
section
variable {X : Cx} {e : Expr} {es : List Expr} {te : TE} {t : TA} {pos : Pos}
theorem pa_nil : PA X [] tNil := fun _ _ _ _ H Q I h => Calls.spliced_nil ⟨[], H, I, .nil, h⟩
theorem ZjH (ha : PE X e te) (hr : PA X es t) (hs : starEach (e :: es) X.env = (false, eval e X.env) :: starEach es X.env := by rfl) : PA X (e :: es) (ZhL te t) := by
 intro pos pins s σ H Q I h
 rw [hs]
 show wpAny _ _ (spliced ((false, eval e X.env) :: backTo pos (starEach es X.env))) _ _ s
 refine Calls.spliced_cons (thn (ha pins s σ H _ I h) fun u s1 ⟨x, H1, I1, r1, q1⟩ => ?_)
 exact thn (hr pos pins s1 σ H1 _ I1 q1) fun us s2 ⟨xs, H2, I2, r2, q2⟩ => ⟨x :: xs, H2, I2, .cons r1 r2, q2⟩
end
abbrev Sp := List V → Hp → VK → XK → Prop
abbrev CXT := List Env → Hp → Shared → XK → Value → Shared → Prop
structure Env0 (P : Program) (w : World) (K : PySem.W.Frag) (mg : Str → Option Value) (base : Heap) (A : Around) (outer : List Env) (s : Shared) (H : Hp) : Prop where
 frames : A.frames = some outer
 mod : Mod K mg base
 bs : ∀ b o, base.get? b = some o → s.heap.get? b = some o ∧ H b = none
 bsz : base.objs.size ≤ s.heap.objs.size
 funs : s.heap.FunFrames base outer
 frf : ∀ b ∈ frs outer, H b = none
 hok : HOk P w H s.heap
 bare : AllBare s.gens
def CE (outer : List Env) (P : Program) (w : World) (H : Hp) (s : Shared) (Q : VK) (u : Value) (s' : Shared) : Prop :=
 ∃ v H', s'.os = s.os ∧ AllBare s'.gens ∧ Un (frs outer) [] H H' s.heap s'.heap ∧ HOk P w H' s'.heap ∧ RelV v u ∧ Q v H'
def CR (CX : CXT) (outer : List Env) (P : Program) (w : World) (H : Hp) (s : Shared) (Q : VK) (E : XK) (r : Result) (s' : Shared) : Prop :=
 match r with
 | .ok (.ret u) => CE outer P w H s Q u s'
 | .ok _ => False
 | .error e => CX outer H s E e s'
structure FnOk (P : Program) (w : World) (K : PySem.W.Frag) (mg : Str → Option Value) (base : Heap) (CX : CXT) (k : Nat) (f : Addr) (fd : FuncData) (ps : List Str) (sp : Sp) : Prop where
 len : ∀ vs H Q E, sp vs H Q E → vs.length = ps.length
 run : ∀ (A : Around) (outer : List Env) (s : Shared) (H : Hp) (args : Args) (us : List Value) (vs : List V) (Q : VK) (E : XK), Room k A → Env0 P w K mg base A outer s H → BindsTo s fd args (ps.zip us) → Vals vs us → sp vs H Q E →
  codeAny (model P w) A (.call (.ref f) args) (CR CX outer P w H s Q E) s
theorem FnOk.mono {P : Program} {w : World} {K : PySem.W.Frag} {mg : Str → Option Value} {base : Heap} {CX : CXT} {j k : Nat} {f : Addr} {fd : FuncData} {ps : List Str} {sp : Sp} (F : FnOk P w K mg base CX j f fd ps sp) (h : j ≤ k) :
  FnOk P w K mg base CX k f fd ps sp := ⟨F.len, fun A outer s H args us vs Q E hr => F.run A outer s H args us vs Q E (hr.mono h)⟩
theorem FnOk.imp {P : Program} {w : World} {K : PySem.W.Frag} {mg : Str → Option Value} {base : Heap} {CX : CXT} {k : Nat} {f : Addr} {fd : FuncData} {ps : List Str} {sp sp' : Sp} (F : FnOk P w K mg base CX k f fd ps sp)
  (h : ∀ vs H Q E, sp' vs H Q E → sp vs H Q E) : FnOk P w K mg base CX k f fd ps sp' :=
 ⟨fun vs H Q E q => F.len vs H Q E (h _ _ _ _ q), fun A outer s H args us vs Q E hr he hb hv hs => F.run A outer s H args us vs Q E hr he hb hv (h _ _ _ _ hs)⟩
theorem Env0.make {P : Program} {w : World} {K : PySem.W.Frag} {mg : Str → Option Value} {base : Heap} {A : Around} {outer : List Env} {s : Shared} {H : Hp} (e : Env0 P w K mg base A outer s H) (C : Addr) (us : List Value) (kw : List (Str × Value)) :
  Env0 P w K mg base (A.under (.builtin "type.__call__" ⟨.ref C :: us, kw⟩)) outer s H := ⟨by first | exact e.frames | (simpa [Around.under, Code.envs, Code.isFrame, pushEnvs] using e.frames), e.mod, e.bs, e.bsz, e.funs, e.frf, e.hok, e.bare⟩
theorem Env0.in1 {P : Program} {w : World} {K : PySem.W.Frag} {mg : Str → Option Value} {base : Heap} {A : Around} {outer : List Env} {s : Shared} {H : Hp} (e : Env0 P w K mg base A outer s H) :
  Env0 P w K mg base A.in1 outer s H := ⟨e.frames, e.mod, e.bs, e.bsz, e.funs, e.frf, e.hok, e.bare⟩
section
variable {X : Cx} {pins : List (Addr × Obj)} {σ : St} {H : Hp} {s s' : Shared}
theorem Inv.env0 (I : Inv X pins σ H s) : Env0 X.prog X.w X.K X.mg X.base X.A X.stack s H :=
 ⟨I.ok.frames, I.ok.mod, I.bs, Nat.le_trans I.ok.bsz I.sz, I.stack, I.stkFree, I.hok, I.bare⟩
theorem Inv.after {Q : VK} {u : Value} (I : Inv X pins σ H s) (h : CE X.stack X.prog X.w H s Q u s') : EP X pins σ Q u s' := by
 obtain ⟨v, H', os, bare, un, hok, r, q⟩ := h
 obtain ⟨hh, g, d, t, os'⟩ := s'
 obtain rfl : os' = s.os := os
 exact ⟨v, H', I.call (h' := hh) (g' := g) (d' := d) (t' := t) (ch := []) un hok bare (fun b z => absurd z (by simp)), r, q⟩
end
def Zf3 (sp : Sp) (dvs : List V) (E : XK) (t : TA) : TE := fun σ H Q => t σ H fun vs H1 => sp (vs ++ dvs) H1 Q E
def ZhX (C : Addr) (m : Str) (sp : Sp) (dvs : List V) (E : XK) (ta : TE) (t : TA) : TE := fun σ H Q => ta σ H fun x H1 => ∃ a dx fs, x = .ref a ∧ H1 a = some (.ins C dx fs) ∧ fs.lookup m = none ∧
 t σ H1 fun vs H2 => sp (x :: (vs ++ dvs)) H2 Q E
def Zkm (C : Addr) (sp : Sp) (dvs : List V) (E : XK) (t : TA) : TE := fun σ H Q => t σ H fun vs H1 => ∀ x dx, H1 x = none → H1 dx = none → dx ≠ x →
 sp (.ref x :: (vs ++ dvs)) (upd (upd H1 dx (.own x)) x (.ins C dx [])) (fun v H2 => v = .non ∧ Q (.ref x) H2) E
def Binds (K : PySem.W.Frag) (fd : FuncData) (ps : List Str) (ds : List Value) : Prop :=
 ∀ (s : Shared) (us : List Value), K.In s.heap → (us ++ ds).length = ps.length → BindsTo s fd ⟨us, []⟩ (ps.zip (us ++ ds))
theorem Binds.all {K : PySem.W.Frag} {fd : FuncData} {ps : List Str} (h : ∀ us : List Value, us.length = ps.length → bindArgs fd ⟨us, []⟩ = pure (ps.zip us)) : Binds K fd ps [] := fun s us _ hl => by
 rw [List.append_nil] at hl ⊢
 exact .of_eq (h us hl)
def ZdR (CX : CXT) (X : Cx) (E : XK) : Prop := ∀ (pins : List (Addr × Obj)) (σ : St) (H : Hp) (s : Shared) (e : Value) (s' : Shared), Inv X pins σ H s → CX X.stack H s E e s' → X.xe e s'
section
variable {X : Cx} {CX : CXT} {k : Nat} {f C : Addr} {fd : FuncData} {ps : List Str} {sp : Sp} {dvs : List V} {ds : List Value} {E : XK} {x m : Str} {p pos apos : Pos} {e o : Expr} {es : List Expr} {ta : TE} {t : TA}
theorem ZiY {pins : List (Addr × Obj)} {σ : St} {H : Hp} {s : Shared} {Q : VK} {us : List Value} {vs : List V} (F : FnOk X.prog X.w X.K X.mg X.base CX k f fd ps sp) (hr : Room k X.A) (hb : Binds X.K fd ps ds) (hd : Vals dvs ds) (hx : ZdR CX X E)
  (I : Inv X pins σ H s) (r : Vals vs us) (h : sp (vs ++ dvs) H Q E) : wpAny (model X.prog X.w) X.A (call (.ref f) us) (EP X pins σ Q) X.xe s := by
 have r2 : Vals (vs ++ dvs) (us ++ ds) := r.append hd
 have hl : (us ++ ds).length = ps.length := by rw [← r2.length]; exact F.len _ _ _ _ h
 refine wpAny_call (codeAny_mono (F.run X.A X.stack s H ⟨us, []⟩ (us ++ ds) (vs ++ dvs) Q E hr I.env0 (hb s us I.kIn hl) r2 h) fun r s' hq => ?_)
 cases r with
 | error e => exact hx pins σ H s e s' I hq
 | ok fl =>
  cases fl with
  | ret u => exact I.after hq
  | next => exact False.elim hq
  | brk => exact False.elim hq
  | cont => exact False.elim hq
theorem ZiI (F : FnOk X.prog X.w X.K X.mg X.base CX k f fd ps sp) (hr : Room k X.A) (hg : Gl X x) (hm : X.mg x = some (.ref f)) (hk : PySem.W.keepIn X.K (.ref f) = true) (hb : Binds X.K fd ps ds) (hd : Vals dvs ds) (hx : ZdR CX X E)
  (ha : PA X (e :: es) t) (hdb : (x == ("__debug__" : Str)) = false := by decide) (he : starEach (e :: es) X.env = (false, eval e X.env) :: starEach es X.env := by rfl) (hpl : (backTo pos (starEach es X.env)).any (·.1) = false := by rfl) :
  PE X (.Call (.Name x p) (e :: es) [] pos) (Zf3 sp dvs E t) := by
 intro pins s σ H Q I h
 refine wpAny_Call_Name_kw (Zgw I hg hm ?_ hdb)
 refine PySem.W.callWith_K (h₀ := X.base) I.ok.mod.kin hk (thn (ha pos pins s σ H _ I h) fun us s1 ⟨vs, H1, I1, r, q⟩ => ⟨I1.kIn, ?_⟩) he hpl
 exact ZiY F hr hb hd hx I1 r q
theorem pe_meth {pl : Sem Bool} (he : PE X o ta) (c : Cls X.K C) (hm : Meth X.K C m f) (F : FnOk X.prog X.w X.K X.mg X.base CX k f fd ps sp) (hr : Room k X.A) (hb : Binds X.K fd ps ds) (hd : Vals dvs ds) (hx : ZdR CX X E) (ha : PA X (e :: es) t)
  (hst : starEach (e :: es) X.env = (false, eval e X.env) :: starEach es X.env := by rfl) (hpl : (backTo pos (starEach es X.env)).any (·.1) = false := by rfl)
  (ht : eval (.Call (.Attribute o m apos) (e :: es) [] pos) X.env = (do
   let ov ← eval o X.env
   standAt apos.atName
   let (f, first) ← holding [ov] (getMethod ov m pl)
   callWith pos f first (backTo pos (starEach (e :: es) X.env)) (backToKw pos (keywordEach [] X.env))) := by rfl) :
  PE X (.Call (.Attribute o m apos) (e :: es) [] pos) (ZhX C m sp dvs E ta t) := by
 intro pins s σ H Q I h
 refine PySem.W.methodCall_KW (pl := pl) (thn (he pins s σ H _ I h) fun u s1 ⟨x, H1, I1, rx, a, dx, fs, ex, ea, l, q⟩ => ?_) ht
 subst ex
 obtain rfl : u = Value.ref a := rx
 refine Zeu I1 ea c hm l ?_
 refine PySem.W.callWith_K (first := [.ref a]) (h₀ := X.base) I.ok.mod.kin hm.kp (thn (ha pos pins s1 σ H1 _ I1 q) fun us s2 ⟨vs, H2, I2, r, q2⟩ => ⟨I2.kIn, ?_⟩) hst hpl
 exact ZiY (us := .ref a :: us) (vs := .ref a :: vs) F hr hb hd hx I2 (.cons rfl r) q2
theorem Zly {pl : Sem Bool} (he : PE X o ta) (c : Cls X.K C) (hm : Meth X.K C m f) (F : FnOk X.prog X.w X.K X.mg X.base CX k f fd ps sp) (hr : Room k X.A) (hb : Binds X.K fd ps ds) (hd : Vals dvs ds) (hx : ZdR CX X E)
  (ht : eval (.Call (.Attribute o m apos) [] [] pos) X.env = (do
   let ov ← eval o X.env
   standAt apos.atName
   let (f, first) ← holding [ov] (getMethod ov m pl)
   callWith pos f first (backTo pos (starEach [] X.env)) (backToKw pos (keywordEach [] X.env))) := by rfl) :
  PE X (.Call (.Attribute o m apos) [] [] pos) (ZhX C m sp dvs E ta tNil) := by
 intro pins s σ H Q I h
 refine PySem.W.methodCall_KW (pl := pl) (thn (he pins s σ H _ I h) fun u s1 ⟨x, H1, I1, rx, a, dx, fs, ex, ea, l, q⟩ => ?_) ht
 subst ex
 obtain rfl : u = Value.ref a := rx
 refine Zeu I1 ea c hm l ?_
 exact PySem.W.callWith_K0 (first := [.ref a]) I1.kIn hm.kp (ZiY (us := [.ref a]) (vs := [.ref a]) F hr hb hd hx I1 (.cons rfl .nil) q)
structure Mk (K : PySem.W.Frag) (C f : Addr) : Prop where
 makes : PySem.W.makesIn K C = true
 init : PySem.W.findIn K (.ref C) "__init__" = some (some (.ref f))
 fn : PySem.W.isFn K (.ref f) = true
 kp : PySem.W.keepIn K (.ref C) = true
theorem Zke {pins : List (Addr × Obj)} {σ : St} {H : Hp} {s : Shared} {Q : VK} {us : List Value} {vs : List V} (M : Mk X.K C f) (F : FnOk X.prog X.w X.K X.mg X.base CX k f fd ps sp) (hr : Room (k + 1) X.A) (hb : Binds X.K fd ps ds) (hd : Vals dvs ds)
  (hx : ZdR CX X E) (I : Inv X pins σ H s) (r : Vals vs us)
  (h : ∀ x dx, H x = none → H dx = none → dx ≠ x → sp (.ref x :: (vs ++ dvs)) (upd (upd H dx (.own x)) x (.ins C dx [])) (fun v H2 => v = .non ∧ Q (.ref x) H2) E) :
  wpAny (model X.prog X.w) X.A (call (.ref C) us) (EP X pins σ Q) X.xe s := by
 have hq := h (s.heap.objs.size + 1) s.heap.objs.size (I.hok.fresh (Nat.le_succ _)) (I.hok.fresh (Nat.le_refl _)) (Nat.ne_of_lt (Nat.lt_succ_self _))
 have I2 := Inv.made (C := C) I
 have r2 : Vals (V.ref (s.heap.objs.size + 1) :: (vs ++ dvs)) (Value.ref (s.heap.objs.size + 1) :: (us ++ ds)) := .cons rfl (r.append hd)
 have hl : (Value.ref (s.heap.objs.size + 1) :: us ++ ds).length = ps.length := by
  have e := r2.length
  rw [F.len _ _ _ _ hq] at e
  exact e.symm
 refine wpAny_call (Zka (f := f) I.kIn M.makes M.init (beq_iff_eq.mp M.fn) (codeAny_mono (F.run _ X.stack _ _ ⟨Value.ref (s.heap.objs.size + 1) :: us, []⟩ (Value.ref (s.heap.objs.size + 1) :: (us ++ ds)) _ _ E (hr.make C us [])
  (I2.env0.make C us []) (hb _ (Value.ref (s.heap.objs.size + 1) :: us) I2.kIn hl) r2 hq) fun r s' hq' => ?_))
 cases r with
 | error e => exact hx pins σ _ _ e s' I2 hq'
 | ok fl =>
  cases fl with
  | ret u =>
   obtain ⟨v, H', I3, rv, ev, q3⟩ := I2.after hq'
   subst ev
   exact ⟨rv, ⟨V.ref (s.heap.objs.size + 1), H', I3, rfl, q3⟩⟩
  | next => exact False.elim hq'
  | brk => exact False.elim hq'
  | cont => exact False.elim hq'
theorem pe_make (M : Mk X.K C f) (F : FnOk X.prog X.w X.K X.mg X.base CX k f fd ps sp) (hr : Room (k + 1) X.A) (hg : Gl X x) (hm : X.mg x = some (.ref C)) (hb : Binds X.K fd ps ds) (hd : Vals dvs ds) (hx : ZdR CX X E)
  (ha : PA X (e :: es) t) (hdb : (x == ("__debug__" : Str)) = false := by decide) (he : starEach (e :: es) X.env = (false, eval e X.env) :: starEach es X.env := by rfl) (hpl : (backTo pos (starEach es X.env)).any (·.1) = false := by rfl) :
  PE X (.Call (.Name x p) (e :: es) [] pos) (Zkm C sp dvs E t) := by
 intro pins s σ H Q I h
 refine wpAny_Call_Name_kw (Zgw I hg hm ?_ hdb)
 refine PySem.W.callWith_K (h₀ := X.base) I.ok.mod.kin M.kp (thn (ha pos pins s σ H _ I h) fun us s1 ⟨vs, H1, I1, r, q⟩ => ⟨I1.kIn, ?_⟩) he hpl
 exact Zke M F hr hb hd hx I1 r q
end
def PK (X : Cx) (kws : List Keyword) (t : TA) : Prop :=
 ∀ (pos : Pos) (pins : List (Addr × Obj)) (s : Shared) (σ : St) (H : Hp) (Q : List V → Hp → Prop), Inv X pins σ H s → t σ H Q → wpAny (model X.prog X.w) X.A (evalAll ((backToKw pos (keywordEach kws X.env)).map (·.2))) (AP X pins σ Q) X.xe s
section
variable {X : Cx} {CX : CXT} {k : Nat} {f C : Addr} {fd : FuncData} {ps ks : List Str} {sp : Sp} {E : XK} {x m : Str} {p pos apos kpos : Pos} {e o : Expr} {es : List Expr} {kws : List Keyword} {te ta : TE} {t tk : TA} {nm : Option Str}
theorem pk_nil : PK X [] tNil := fun _ _ _ _ H Q I h => wpAny_evalAll_nil ⟨[], H, I, .nil, h⟩
theorem Zh5 (ha : PE X e te) (hr : PK X kws t) : PK X (⟨nm, e, kpos⟩ :: kws) (ZhL te t) := by
 intro pos pins s σ H Q I h
 show wpAny _ _ (evalAll ((do let v ← eval e X.env; standAt pos; pure v) :: (backToKw pos (keywordEach kws X.env)).map (·.2))) _ _ s
 refine wpAny_evalAll_cons (wpAny_bind (thn (ha pins s σ H _ I h) fun u s1 ⟨x, H1, I1, r1, q1⟩ => wpAny_bind (wpAny_standAt (wpAny_pure ?_))))
 exact thn (hr pos pins s1 σ H1 _ I1 q1) fun us s2 ⟨xs, H2, I2, r2, q2⟩ => ⟨x :: xs, H2, I2, .cons r1 r2, q2⟩
structure KBinds (K : PySem.W.Frag) (fd : FuncData) (ps ks : List Str) (g : List Value → List Value → List Value) (gV : List V → List V → List V) : Prop where
 to : ∀ (s : Shared) (us ws : List Value), K.In s.heap → (g us ws).length = ps.length → BindsTo s fd ⟨us, ks.zip ws⟩ (ps.zip (g us ws))
 rel : ∀ {vs : List V} {us : List Value} {zs : List V} {ws : List Value}, Vals vs us → Vals zs ws → Vals (gV vs zs) (g us ws)
variable {g : List Value → List Value → List Value} {gV : List V → List V → List V}
end
structure FnScope (N P : List Str) (sc : Scope) : Prop where
 kind : sc.kind = .function
 co : sc.isCoroutine = false
 gen : sc.isGenerator = false
 nd : N.Nodup
 pre : N.take P.length = P
 par : ∀ x ∈ P, sc.names.lookup x = some .local ∨ sc.names.lookup x = some .cell
 nofree : ∀ y ∈ sc.names, y.2 ≠ .free
theorem Zfi {kindOf : Str → Option NameKind} {x : Str} : ∀ {binds : List (Str × Value)} {m : Str → Option Value}, (∀ v, (x, v) ∉ binds) → bindL kindOf binds m x = m x
 | [], _, _ => rfl
 | (n, v) :: r, m, h => by
  unfold bindL
  rw [Zfi fun w hw => h w (List.mem_cons_of_mem _ hw)]
  split
  ·have : x ≠ n := by rintro rfl; exact h v List.mem_cons_self
   simp [this]
  ·rfl
theorem Zff {kindOf : Str → Option NameKind} {x : Str} : ∀ {binds : List (Str × Value)} {m : Str → Option Value}, (∀ v, (x, v) ∉ binds) → bindC kindOf binds m x = m x
 | [], _, _ => rfl
 | (n, v) :: r, m, h => by
  unfold bindC
  rw [Zff fun w hw => h w (List.mem_cons_of_mem _ hw)]
  split
  ·rfl
  ·have : x ≠ n := by rintro rfl; exact h v List.mem_cons_self
   simp [this]
theorem Zfu {kindOf : Str → Option NameKind} {x : Str} {v : Value} : ∀ {P : List Str} {vs : List Value} {i : Nat} {m : Str → Option Value}, P.Nodup → P[i]? = some x → vs[i]? = some v → kindOf x = some .local →
  bindL kindOf (P.zip vs) m x = some v
 | [], _, _, _, _, h, _, _ => by simp at h
 | _ :: _, [], _, _, _, _, h, _ => by simp at h
 | p :: P, w :: vs, 0, m, nd, h1, h2, hk => by
  simp at h1 h2; subst h1; subst h2
  show bindL kindOf ((p, w) :: P.zip vs) m p = _
  unfold bindL
  rw [Zfi fun v hv => (List.nodup_cons.mp nd).1 (List.of_mem_zip hv).1, if_pos hk]
  simp
 | p :: P, w :: vs, i + 1, m, nd, h1, h2, hk => by
  show bindL kindOf ((p, w) :: P.zip vs) m x = _
  unfold bindL
  exact Zfu (i := i) (List.nodup_cons.mp nd).2 (by simpa using h1) (by simpa using h2) hk
theorem ZfA {kindOf : Str → Option NameKind} {x : Str} {v : Value} : ∀ {P : List Str} {vs : List Value} {i : Nat} {m : Str → Option Value}, P.Nodup → P[i]? = some x → vs[i]? = some v → kindOf x ≠ some .local →
  bindC kindOf (P.zip vs) m x = some v
 | [], _, _, _, _, h, _, _ => by simp at h
 | _ :: _, [], _, _, _, _, h, _ => by simp at h
 | p :: P, w :: vs, 0, m, nd, h1, h2, hk => by
  simp at h1 h2; subst h1; subst h2
  show bindC kindOf ((p, w) :: P.zip vs) m p = _
  unfold bindC
  rw [Zff fun v hv => (List.nodup_cons.mp nd).1 (List.of_mem_zip hv).1, if_neg hk]
  simp
 | p :: P, w :: vs, i + 1, m, nd, h1, h2, hk => by
  show bindC kindOf ((p, w) :: P.zip vs) m x = _
  unfold bindC
  exact ZfA (i := i) (List.nodup_cons.mp nd).2 (by simpa using h1) (by simpa using h2) hk
def Zav (N : List Str) (vs : List V) : St := vs.map some ++ List.replicate (N.length - vs.length) none
def Zh3 (CX : CXT) (P : Program) (w : World) (K : PySem.W.Frag) (mg : Str → Option Value) (base : Heap) (N : List Str) (qual : Str) (scope : Scope) (f : Addr) (cd : Value) (A : Around) (outer : List Env) (s : Shared) (H : Hp) (E : XK) : Cx where
 prog := P
 w := w
 K := K
 mg := mg
 base := base
 A := A.deeper (envOfC qual scope s.heap.objs.size f cd)
 N := N
 s₀ := s
 H₀ := H
 env := envOfC qual scope s.heap.objs.size f cd
 outer := outer
 stack := envOfC qual scope s.heap.objs.size f cd :: outer
 ex := []
 calm := true
 fn := fun _ => true
 pn := []
 xe := fun e s' => wpAny (model P w) (A.deeper (envOfC qual scope s.heap.objs.size f cd)) (leaving (envOfC qual scope s.heap.objs.size f cd) e) (fun _ s'' => CX outer H s E e s'') (fun e' s'' => CX outer H s E e' s'') s'
theorem ZgN {sc : Scope} {n : Nat} {x : Str} (h : sc.names.lookup x = some .cell) : ∃ c, (cellsFrom n sc.names []).lookup x = some c := by
 have q := PySem.W.cellsFrom_some sc.names n [] (.inl h)
 exact Option.isSome_iff_exists.mp q
theorem ZjU {CX : CXT} {P : Program} {w : World} {K : PySem.W.Frag} {mg : Str → Option Value} {base : Heap} {N ps : List Str} {qual : Str} {scope : Scope} {f : Addr} {cd : Value} {A : Around} {outer : List Env} {s s1 : Shared} {H : Hp} {E : XK} {us : List Value} {vs : List V}
  (S : FnScope N ps scope) (hd : A.handled = none) (e0 : Env0 P w K mg base A outer s H) (hl : vs.length = ps.length) (r : Vals vs us)
  (x : InCallC s s.heap.objs.size (bindL (envOfC qual scope s.heap.objs.size f cd).kindOf (ps.zip us) fun _ => none) (cellsFrom (s.heap.objs.size + 1) scope.names []) (bindC (envOfC qual scope s.heap.objs.size f cd).kindOf (ps.zip us) fun _ => none) s1) :
  Inv (Zh3 CX P w K mg base N qual scope f cd A outer s H E) [] (Zav N vs) H s1 := by
 have hpl : ps.length ≤ N.length := by have := congrArg List.length S.pre; rw [List.length_take] at this; omega
 obtain ⟨h1, tk, rfl, hk⟩ := x.done
 have noA : ∀ b : Addr, b ∉ (Zh3 CX P w K mg base N qual scope f cd A outer s H E).ex := fun b z => absurd (show b ∈ ([] : List Addr) from z) (by simp)
 refine ⟨⟨e0.mod, S.kind, rfl, rfl, Nat.le_refl _, fun y z c h1 h2 => ?_, fun y hy => ?_, fun y c _ h => ?_, fun _ => hd, Around.frames_deeper e0.frames, .inr ⟨rfl, rfl⟩, fun b z => absurd z (noA b), e0.bs, e0.bsz, fun b _ _ => noA b, fun b z => absurd z (noA b), e0.funs, e0.frf⟩,
  rfl, e0.bare, Un.kept hk, ⟨_, x.toInCall.ns, fun i y v h1 h2 h3 => ?_⟩, fun y c h => ⟨_, x.cell y c h⟩, e0.hok.fresh (Nat.le_refl _), fun y c h => ?_, fun p hp => absurd (show p ∈ ([] : List (Addr × Obj)) from hp) (by simp), e0.hok.kept hk, ?_⟩
 ·exact name_of_addr x.apart (PySem.mem_of_lookup h1) (PySem.mem_of_lookup h2)
 ·have hy : scope.names.lookup y = some .cell ∨ scope.names.lookup y = some .free := hy
  rcases hy with hy | hy
  ·exact ZgN hy
  ·exact absurd rfl (S.nofree _ (PySem.mem_of_lookup hy))
 ·exact Nat.le_of_lt (x.above y c (PySem.mem_of_lookup h))
 ·have hi : i < vs.length := by
   unfold Zav at h2
   by_cases hi : i < vs.length
   ·exact hi
   ·rw [List.getElem?_append_right (by simpa using hi)] at h2
    rw [List.getElem?_replicate] at h2
    split at h2 <;> cases h2
  have ha : vs[i]? = some v := by
   unfold Zav at h2
   rw [List.getElem?_append_left (by simpa using hi), List.getElem?_map] at h2
   cases e : vs[i]? with
   | none => rw [e] at h2; cases h2
   | some a => rw [e] at h2; cases h2; rfl
  obtain ⟨u, hu, rv⟩ := r.get ha
  have hp : ps[i]? = some y := by
   rw [← S.pre, List.getElem?_take_of_lt (by omega)]; exact h1
  have ndP : ps.Nodup := by rw [← S.pre]; exact S.nd.sublist (List.take_sublist _ _)
  refine ⟨u, rv, ?_⟩
  rcases S.par y (List.mem_of_getElem? hp) with k | k
  ·exact .inl ⟨k, Zfu ndP hp hu k⟩
  ·obtain ⟨c, e⟩ := ZgN (n := s.heap.objs.size + 1) k
   refine .inr ⟨.inl k, c, e, ?_⟩
   have q := x.cell y c e
   rw [ZfA ndP hp hu (by show scope.names.lookup y ≠ _; rw [k]; decide)] at q
   exact q
 ·exact e0.hok.fresh (Nat.le_of_lt (x.above y c (PySem.mem_of_lookup h)))
 ·unfold Zav
  show _ = N.length
  rw [List.length_append, List.length_map, List.length_replicate]
  omega
theorem fn_of {CX : CXT} {P : Program} {w : World} {K : PySem.W.Frag} {mg : Str → Option Value} {base : Heap} {k : Nat} {f : Addr} {name qual : Str} {params : Arguments} {body : List Stmt} {scope : Scope} {dV kV doc pm cdv ct oc : Value} {an od : Option Addr}
  {osl : Array (Option Value)} {N ps : List Str} {sp : Sp} (lk : K.lookup f = some ⟨oc, od, .func (PySem.W.fnOf name qual params body scope dV kV doc pm an cdv ct), osl⟩) (hcd : PySem.W.codeIn K cdv qual = true) (S : FnScope N ps scope)
  (len : ∀ vs H Q E, sp vs H Q E → vs.length = ps.length)
  (hbody : ∀ (A : Around) (outer : List Env) (s : Shared) (H : Hp) (vs : List V) (Q : VK) (E : XK), Room k (A.deeper (envOfC qual scope s.heap.objs.size f cdv)) → sp vs H Q E →
   ∃ t, PSs (Zh3 CX P w K mg base N qual scope f cdv A outer s H E) body t ∧ t { nx := fun _ H' => Q .non H', rt := Q } (Zav N vs) H) :
  FnOk P w K mg base CX (k + 1) f (PySem.W.fnOf name qual params body scope dV kV doc pm an cdv ct) ps sp := by
 refine ⟨len, fun A outer s H args us vs Q E hr e0 hb r hsp => ?_⟩
 have hl := len _ _ _ _ hsp
 have KX : K.In s.heap := e0.mod.kin.keeps fun b o e => (e0.bs b o e).1
 have lim : s.heap.NoLimit := e0.mod.nolimit.keeps fun b o e => (e0.bs b o e).1
 have hkind : ∀ y ∈ ps.zip us, scope.names.lookup y.1 = some .local ∨ (scope.names.lookup y.1 = some .cell ∧ ((cellsFrom (s.heap.objs.size + 1) scope.names []).lookup y.1).isSome = true) := fun ⟨n, v⟩ hy => by
  rcases S.par n (List.of_mem_zip hy).1 with q | q
  ·exact .inl q
  ·exact .inr ⟨q, PySem.W.cellsFrom_some _ _ _ (.inl q)⟩
 refine codeAny_call_function hr.depth (KX _ _ lk) rfl S.co S.gen rfl (PySem.W.codeRec_of KX hcd) (hb _ _ _ _ ?_)
 refine wpAny_newFunctionEnv_cells S.kind hkind fun env he s1 x => ?_
 subst he
 refine ⟨lim.keeps x.toInCall.keep, codeAny_func ?_⟩
 obtain ⟨t, ht, hq⟩ := hbody A outer s H vs Q E (hr.deeper _) hsp
 have I : Inv (Zh3 CX P w K mg base N qual scope f cdv A outer s H E) [] (Zav N vs) H s1 := ZjU S hr.hd e0 hl r x
 refine wpAny_mono (ht [] s1 (Zav N vs) H _ I hq) (fun fl s' hs => ?_) fun e s' hs => hs
 have fin : ∀ {σ' : St} {H' : Hp} {v : V} {u : Value}, Inv (Zh3 CX P w K mg base N qual scope f cdv A outer s H E) [] σ' H' s' → RelV v u → Q v H' → CE outer P w H s Q u s' :=
  fun {σ' H' v u} J rv q => ⟨v, H', J.os, J.bare, J.base, J.hok, rv, q⟩
 cases fl with
 | ret u =>
  obtain ⟨v, σ', H', J, rv, q⟩ := hs
  exact fin J rv q
 | next =>
  obtain ⟨σ', H', J, q⟩ := hs
  exact fin (v := V.non) (u := Value.none) J rfl q
 | brk =>
  obtain ⟨_, _, _, q⟩ := hs
  exact False.elim q
 | cont =>
  obtain ⟨_, _, _, q⟩ := hs
  exact False.elim q
end L2
namespace L2
open PySem PySem.Spec PyProof.Rows
section
variable {X : Cx} {x : Str} {p pos : Pos} {e : Expr} {es : List Expr} {t : TA} {id T : String} {r : List V → Hp → VK → Prop}
def tCB (r : List V → Hp → VK → Prop) (t : TA) : TE := fun σ H Q => t σ H fun vs H1 => r vs H1 Q
theorem Zb6 (hc : CallR X (.builtin id) r) (hg : Gl X x) (hm : X.mg x = none) (hv : bootBuiltins x = some (.builtin id)) (ha : PA X (e :: es) t) (hn : x ≠ "__name__" := by decide) (hdb : (x == ("__debug__" : Str)) = false := by decide)
  (he : starEach (e :: es) X.env = (false, eval e X.env) :: starEach es X.env := by rfl) (hpl : (backTo pos (starEach es X.env)).any (·.1) = false := by rfl) : PE X (.Call (.Name x p) (e :: es) [] pos) (tCB r t) := by
 intro pins s σ H Q I h
 refine wpAny_Call_Name_kw (ZbO I hg hm hv ?_ hn hdb)
 exact PyProof.Rows.callWith_builtin1 (thn (ha pos pins s σ H _ I h) fun us s1 ⟨vs, H1, I1, r1, q1⟩ => hc pins s1 σ H1 vs us Q I1 r1 q1) he hpl
theorem Zch (hc : CallR X (.type T) r) (hg : Gl X x) (hm : X.mg x = none) (hv : bootBuiltins x = some (.type T)) (ha : PA X (e :: es) t) (hn : x ≠ "__name__" := by decide) (hdb : (x == ("__debug__" : Str)) = false := by decide)
  (he : starEach (e :: es) X.env = (false, eval e X.env) :: starEach es X.env := by rfl) (hpl : (backTo pos (starEach es X.env)).any (·.1) = false := by rfl) : PE X (.Call (.Name x p) (e :: es) [] pos) (tCB r t) := by
 intro pins s σ H Q I h
 refine wpAny_Call_Name_kw (ZbO I hg hm hv ?_ hn hdb)
 exact PyProof.Rows.callWith_type1 (thn (ha pos pins s σ H _ I h) fun us s1 ⟨vs, H1, I1, r1, q1⟩ => hc pins s1 σ H1 vs us Q I1 r1 q1) he hpl
end
end L2
namespace HT
open PySem PyProof.Rows
section
open PySem.SeqAt
open PySem.AutoSeq1 (wpAny_loadPart')
open PySem.MeetsSeq PySem.MeetsSeq2 PySem.MeetsSeq3
end
section
variable {prog : Program} {w : World} {A : Around} {E : Value → Shared → Prop} {s : Shared}
end
end HT
namespace L2
open PySem PySem.Spec PyProof.Rows
abbrev TO := St → Hp → (Option Int → Hp → Prop) → Prop
def PO (X : Cx) (e : Option Expr) (t : TO) : Prop :=
 ∀ (pins : List (Addr × Obj)) (s : Shared) (σ : St) (H : Hp) (Q : Option Int → Hp → Prop), Inv X pins σ H s → t σ H Q →
  wpAny (model X.prog X.w) X.A (evalPart e X.env) (fun u s' => ∃ o H', Inv X pins σ H' s' ∧ IsPart u o ∧ Q o H') X.xe s
def ZeL : TO := fun _ H Q => Q none H
def Zle (t : TE) : TO := fun σ H Q => t σ H fun x H1 => ∃ i, x = .int i ∧ Q (some i) H1
section
variable {X : Cx} {e : Expr} {te : TE} {lo hi : Option Expr} {tl th : TO} {pos p2 : Pos}
theorem po_none : PO X none ZeL := by
 intro pins s σ H Q I h
 rw [evalPart_none]
 exact wpAny_pure ⟨none, H, I, .none, h⟩
theorem po_some (h : PE X e te) : PO X (some e) (Zle te) := by
 intro pins s σ H Q I hw
 rw [evalPart_some]
 refine thn (h pins s σ H _ I hw) fun u s1 ⟨x, H1, I1, r1, q1⟩ => ?_
 obtain ⟨i, rfl, q⟩ := q1
 obtain ⟨t, rfl⟩ := r1
 exact ⟨some i, H1, I1, .int i t, q⟩
def SlR (X : Cx) (r : V → Option Int → Option Int → Hp → VK → Prop) : Prop :=
 ∀ (pins : List (Addr × Obj)) (s : Shared) (σ : St) (H : Hp) (x : V) (v vl vu : Value) (lo hi : Option Int) (sl : Addr) (Q : VK), Inv X pins σ H s → RelV x v → s.heap.IsSliceOf sl vl vu .none → IsPart vl lo → IsPart vu hi → r x lo hi H Q →
  ∃ T id, typeLookup (.type T) "__getitem__" = pure (some (.builtin id)) ∧ s.TypeIs v T ∧ wpAny (model X.prog X.w) X.A (getItem v (.ref sl)) (EP X pins σ Q) X.xe s
theorem SlR.or {r r' : V → Option Int → Option Int → Hp → VK → Prop} (h : SlR X r) (h' : SlR X r') : SlR X (fun x lo hi H Q => r x lo hi H Q ∨ r' x lo hi H Q) := by
 intro pins s σ H x v vl vu lo hi sl Q I rx hs pl pu q
 rcases q with q | q
 ·exact h pins s σ H x v vl vu lo hi sl Q I rx hs pl pu q
 ·exact h' pins s σ H x v vl vu lo hi sl Q I rx hs pl pu q
def tSl (r : V → Option Int → Option Int → Hp → VK → Prop) (te : TE) (tl th : TO) : TE := fun σ H Q => te σ H fun x H1 => tl σ H1 fun l H2 => th σ H2 fun u H3 => r x l u H3 Q
theorem Zkl {r : V → Option Int → Option Int → Hp → VK → Prop} (hr : SlR X r) (he : PE X e te) (hl : PO X lo tl) (hu : PO X hi th) : PE X (.Subscript e (.Slice lo hi none p2) pos) (tSl r te tl th) := by
 intro pins s σ H Q I h
 refine Subscript_ (thn (he pins s σ H _ I h) fun v s1 ⟨x, H1, I1, r1, q1⟩ => ?_)
 refine wpAny_Slice (thn (hl pins s1 σ H1 _ I1 q1) fun vl s2 ⟨l, H2, I2, pl, q2⟩ => thn (hu pins s2 σ H2 _ I2 q2) fun vu s3 ⟨u, H3, I3, pu, q3⟩ => ?_)
 rw [evalPart_none]
 refine wpAny_pure ?_
 have I4 : Inv X pins σ H3 { s3 with heap := s3.heap.push { cls := .type "slice", data := .fields #[vl, vu, .none] } } := I3.kept (t' := s3.toks) fun b ob q => Heap.get?_push_of_some _ q
 obtain ⟨T, id, hT, ht, hg⟩ := hr pins { s3 with heap := s3.heap.push { cls := .type "slice", data := .fields #[vl, vu, .none] } } σ H3 x v vl vu l u s3.heap.objs.size Q I4 r1 (Heap.IsSliceOf.new ..) pl pu q3
 show wpAny (model X.prog X.w) X.A (subscriptTail e (.Slice lo hi none p2) v (.ref s3.heap.objs.size)) (EP X pins σ Q) X.xe { s3 with heap := s3.heap.push { cls := .type "slice", data := .fields #[vl, vu, .none] } }
 exact tail_any (ops := [.ref s3.heap.objs.size, v]) ht hT hg (by with_unfolding_all rfl)
end
end L2
namespace L2
open PySem PySem.Spec PyProof.Rows
def ixN (n : Nat) (i : Int) : Option Nat := if 0 ≤ i then (if i < n then some i.toNat else none) else if -(n : Int) ≤ i then some (i + n).toNat else none
def atI {α : Type} (xs : List α) (i : Int) : Option α := (ixN xs.length i).bind fun j => xs[j]?
theorem ZjT {n : Nat} {i : Int} {j : Nat} (h : ixN n i = some j) : seqIndex? i n = some j ∧ j < n ∧ -(n : Int) ≤ i ∧ i < n := by
 unfold ixN at h
 by_cases h0 : 0 ≤ i
 ·rw [if_pos h0] at h
  by_cases h1 : i < n
  ·rw [if_pos h1] at h
   have e : i.toNat = j := Option.some.inj h
   exact ⟨by rw [seqIndex_of h0 h1, e], by omega, by omega, h1⟩
  ·rw [if_neg h1] at h; cases h
 ·rw [if_neg h0] at h
  by_cases h1 : -(n : Int) ≤ i
  ·rw [if_pos h1] at h
   have e : (i + n).toNat = j := Option.some.inj h
   exact ⟨by rw [seqIndex_neg (by omega) h1, e], by omega, h1, by omega⟩
  ·rw [if_neg h1] at h; cases h
theorem ZfO {α : Type} {xs : List α} {i : Int} {v : α} (h : atI xs i = some v) : ∃ j, seqIndex? i xs.length = some j ∧ xs[j]? = some v ∧ j < xs.length ∧ -(xs.length : Int) ≤ i ∧ i < xs.length := by
 unfold atI at h
 cases e : ixN xs.length i with
 | none => rw [e] at h; cases h
 | some j =>
  rw [e] at h
  obtain ⟨h1, h2, h3, h4⟩ := ZjT e
  exact ⟨j, h1, h, h2, h3, h4⟩
theorem ZaE {α : Type} {xs : List α} {j : Nat} {v : α} (h : xs[j]? = some v) : atI xs (j : Int) = some v := by
 have hj : j < xs.length := (List.getElem?_eq_some_iff.mp h).1
 have e : ixN xs.length (j : Int) = some j := by
  unfold ixN
  rw [if_pos (by omega), if_pos (by omega)]; simp
 unfold atI; rw [e]; exact h
def Zec (b : Expr) : Prop := ∀ o i, subscripted b false o i = operate [o, i] (getItem o i)
def IxR (X : Cx) (r : R2) : Prop :=
 ∀ (value slice : Expr) (pins : List (Addr × Obj)) (s : Shared) (σ : St) (H : Hp) (x y : V) (v u : Value) (Q : VK), Inv X pins σ H s → RelV x v → RelV y u → r x y H Q →
  subscripted slice false v u = operate [v, u] (getItem v u) → wpAny (model X.prog X.w) X.A (subscriptTail value slice v u) (EP X pins σ Q) X.xe s
def MtR (X : Cx) (id : String) (r : V → List V → Hp → VK → Prop) : Prop :=
 ∀ (pins : List (Addr × Obj)) (s : Shared) (σ : St) (H : Hp) (x : V) (xs : List V) (v : Value) (us : List Value) (Q : VK), Inv X pins σ H s → RelV x v → Vals xs us → r x xs H Q →
  wpAny (model X.prog X.w) X.A (call (.builtin id) (v :: us)) (EP X pins σ Q) X.xe s
section
variable {X : Cx} {a b : Expr} {ta tb : TE} {pos : Pos}
theorem IxR.or {r r' : R2} (h : IxR X r) (h' : IxR X r') : IxR X (fun x y H Q => r x y H Q ∨ r' x y H Q) := by
 intro value slice pins s σ H x y v u Q I rx ry q hs
 rcases q with q | q
 ·exact h value slice pins s σ H x y v u Q I rx ry q hs
 ·exact h' value slice pins s σ H x y v u Q I rx ry q hs
theorem MtR.or {id : String} {r r' : V → List V → Hp → VK → Prop} (h : MtR X id r) (h' : MtR X id r') : MtR X id (fun x xs H Q => r x xs H Q ∨ r' x xs H Q) := by
 intro pins s σ H x xs v us Q I rx rs q
 rcases q with q | q
 ·exact h pins s σ H x xs v us Q I rx rs q
 ·exact h' pins s σ H x xs v us Q I rx rs q
theorem Zlt {r : R2} (hr : IxR X r) (ha : PE X a ta) (hb : PE X b tb) (hs : Zec b) : PE X (.Subscript a b pos) (tOp r ta tb) := by
 intro pins s σ H Q I h
 exact Subscript_ (binT ha hb I h fun v u s2 x y H2 I2 rx ry q => hr a b pins s2 σ H2 x y v u Q I2 rx ry q (hs _ _))
def rIxL (K : PySem.W.Frag) : R2 := fun x y H Q => ∃ p xs i v, x = .ref p ∧ y = .int i ∧ SqL K H p xs ∧ atI xs i = some v ∧ Q v H
def rIxT (K : PySem.W.Frag) : R2 := fun x y H Q => ∃ p xs i v, x = .ref p ∧ y = .int i ∧ SqT K H p xs ∧ atI xs i = some v ∧ Q v H
def rIxS : R2 := fun x y H Q => ∃ z i c, x = .str z ∧ y = .int i ∧ z.length ≤ sizeLine ∧ atI z.cps.toList i = some c ∧ Q (.str ⟨#[c]⟩) H
theorem ZiT : IxR X (rIxL X.K) := by
 intro value slice pins s σ H x y v u Q I rx ry h hs
 obtain ⟨p, xs, i, z, rfl, rfl, hq, he, q⟩ := h
 cases rx
 obtain ⟨t, rfl⟩ := ry
 obtain ⟨its, r, pl, hz⟩ := I.list hq
 obtain ⟨j, h1, h2, h3, h4, h5⟩ := ZfO he
 obtain ⟨w, ew, rw'⟩ := r.get h2
 have hl := r.length
 have hn := Zfs
 have fin : EP X pins σ Q w s := ⟨z, H, I, rw', q⟩
 by_cases h0 : 0 ≤ i
 ·have hj : i.toNat = j := by
   rw [seqIndex_of h0 h5] at h1
   exact Option.some.inj h1
  exact item_listR pl.isList h0 (by omega) (by rw [hj]; simpa using ew) fin hs
 ·have hj : (i + (its.toArray.size : Int)).toNat = j := by
   rw [seqIndex_neg (by omega) h4] at h1
   rw [List.size_toArray, ← hl]
   exact Option.some.inj h1
  exact subscriptTail_builtinR (x := w) pl.isList.typeIs slot_list_getitem.lookup
   (wpAny_getItem_list_neg (Q := fun r s' => r = w ∧ EP X pins σ Q r s') pl.isList (by omega) (by rw [List.size_toArray] <;> omega) (by omega) (by rw [hj]; simpa using ew) ⟨rfl, fin⟩) hs
theorem ix_tup : IxR X (rIxT X.K) := by
 intro value slice pins s σ H x y v u Q I rx ry h hs
 obtain ⟨p, xs, i, z, rfl, rfl, hq, he, q⟩ := h
 cases rx
 obtain ⟨t, rfl⟩ := ry
 obtain ⟨its, r, pl, hz⟩ := I.tuple hq
 obtain ⟨j, h1, h2, h3, h4, h5⟩ := ZfO he
 obtain ⟨w, ew, rw'⟩ := r.get h2
 have hl := r.length
 have hn := Zfs
 have fin : EP X pins σ Q w s := ⟨z, H, I, rw', q⟩
 exact subscriptTail_builtinR (x := w) pl.typeIs slot_tuple_getitem.lookup
  (getItem_tuple (j := j) (Q := fun r s' => r = w ∧ EP X pins σ Q r s') pl (by omega) (by omega) (by rw [List.size_toArray, ← hl]; exact h1) (by simpa using ew) ⟨rfl, fin⟩) hs
theorem ix_str : IxR X rIxS := by
 intro value slice pins s σ H x y v u Q I rx ry h hs
 obtain ⟨z, i, c, rfl, rfl, hz, he, q⟩ := h
 obtain ⟨t, rfl⟩ := rx
 obtain ⟨t', rfl⟩ := ry
 obtain ⟨j, h1, h2, h3, h4, h5⟩ := ZfO he
 have hl : z.cps.toList.length = z.length := by simp [Str.length]
 rw [hl] at h1 h4 h5
 have hn := Zfs
 exact tail_any (typeIs_str s z t) slot_str_getitem.lookup (getItem_str (c := c) (by
  have e1 : decide (i < -(2 ^ 63 : Int)) = false := decide_eq_false (by omega)
  have e2 : decide (i ≥ 2 ^ 63) = false := decide_eq_false (by omega)
  rw [e1, e2, Bool.or_false]) (by rw [h1]; simpa using h2) ⟨.str ⟨#[c]⟩, H, I.tok _, ⟨_, rfl⟩, q⟩) hs
theorem Zhu (its : List Value) (n j : Nat) (u : Value) : Obj.mapSeq (·.setIfInBounds j u) { cls := .type "list", data := .seq its.toArray n } = { cls := .type "list", data := .seq (its.set j u).toArray n } := by
 simp [Obj.mapSeq]
theorem Inv.lst {pins : List (Addr × Obj)} {σ : St} {H : Hp} {s : Shared} {p : Addr} {xs : List V} (I : Inv X pins σ H s) (h : H p = some (.lst xs)) :
  ∃ (its : List Value) (n : Nat), Vals xs its ∧ s.heap.get? p = some { cls := .type "list", data := .seq its.toArray n } ∧ xs.length ≤ sizeLine := by
 obtain ⟨z, its, n, r, e⟩ := I.hok p _ h
 exact ⟨its, n, r, e, z⟩
theorem Inv.lstUpd {pins : List (Addr × Obj)} {σ : St} {H : Hp} {s : Shared} {p : Addr} {xs ys : List V} {its its' : List Value} {n n' : Nat} {f : Obj → Obj} (I : Inv X pins σ H s) (h : H p = some (.lst xs))
  (ho : s.heap.get? p = some { cls := .type "list", data := .seq its.toArray n }) (hf : f { cls := .type "list", data := .seq its.toArray n } = { cls := .type "list", data := .seq its'.toArray n' }) (r : Vals ys its') (hz : ys.length ≤ sizeLine) (t : Nat) :
  Inv X pins σ (upd H p (.lst ys)) { s with heap := s.heap.update p f, toks := t } := by
 have e : (s.heap.update p f).get? p = some { cls := .type "list", data := .seq its'.toArray n' } := by
  rw [Heap.get?_update_self f ho (by rw [hf] <;> rfl), hf]
 refine I.write (x := p) (e := p) (by rw [h]; trivial) (.inl rfl) (fun b u hb q => (Heap.get?_update_other _ _ (Ne.symm hb)).trans q) ⟨_, e⟩ ?_
 exact ⟨hz, its', n', r, e⟩
def Zk1 : V → V → V → Hp → (Hp → Prop) → Prop := fun o i v H Q => ∃ p xs k j, o = .ref p ∧ i = .int k ∧ H p = some (.lst xs) ∧ ixN xs.length k = some j ∧ Q (upd H p (.lst (xs.set j v)))
theorem Zlj : PSet X Zk1 := by
 intro pins s σ H o i v ov iv u Q I ro ri rv h
 obtain ⟨p, xs, k, j, rfl, rfl, hp, hj, q⟩ := h
 cases ro
 obtain ⟨t, rfl⟩ := ri
 obtain ⟨its, n, r, ho, hz⟩ := I.lst hp
 obtain ⟨h1, h2, h3, h4⟩ := ZjT hj
 have hl := r.length
 have hn := Zfs
 have I' : Inv X pins σ (upd H p (.lst (xs.set j v))) { s with heap := s.heap.update p (Obj.mapSeq (·.setIfInBounds j u)) } :=
  I.lstUpd hp ho (Zhu its n j u) (r.set rv j) (by rw [List.length_set]; exact hz) s.toks
 by_cases h0 : 0 ≤ k
 ·have hk : k.toNat = j := by
   rw [seqIndex_of h0 h4] at h1
   exact Option.some.inj h1
  exact PySem.W.ki_setAt ho h0 (by omega) (by rw [List.size_toArray, ← hl]; exact h4) (by rw [hk]; exact ⟨_, I', q⟩)
 ·have hk : (k + (its.toArray.size : Int)).toNat = j := by
   rw [seqIndex_neg (by omega) h3] at h1
   rw [List.size_toArray, ← hl]
   exact Option.some.inj h1
  exact PySem.W.ki_setBack ho (by omega) (by rw [List.size_toArray, ← hl]; exact h3) (by omega) (by rw [hk]; exact ⟨_, I', q⟩)
def Zdb : V → Bool
 | .non => true
 | .bl _ => true
 | .int _ => true
 | .str _ => true
 | _ => false
def eqV : V → V → Bool
 | .non, .non => true
 | .bl a, .bl b => a == b
 | .bl a, .int b => (if a then 1 else 0) == b
 | .int a, .bl b => a == (if b then 1 else 0)
 | .int a, .int b => a == b
 | .str a, .str b => a == b
 | _, _ => false
theorem ZjV {A : Around} {s : Shared} {y x : V} {u v : Value} (ry : RelV y u) (rx : RelV x v) (fy : Zdb y = true) (fx : Zdb x = true) : SeqAt.EqAt A s u v (eqV y x) := by
 cases y with
 | non =>
  cases ry
  cases x with
  | non => cases rx; exact SeqAt.EqAt.same _
  | bl b => cases rx; exact SeqAt.EqAt.none_bool b
  | int b => obtain ⟨t, rfl⟩ := rx; exact SeqAt.EqAt.none_int b t
  | str b => obtain ⟨t, rfl⟩ := rx; exact SeqAt.EqAt.none_str b t
  | _ => exact absurd (show false = true from fx) Bool.false_ne_true
 | bl a =>
  cases ry
  cases x with
  | non => cases rx; exact SeqAt.EqAt.bool_none a
  | bl b => cases rx; exact SeqAt.EqAt.bool_bool a b
  | int b => obtain ⟨t, rfl⟩ := rx; exact SeqAt.EqAt.bool_int a b t
  | str b => obtain ⟨t, rfl⟩ := rx; exact SeqAt.EqAt.bool_str a b t
  | _ => exact absurd (show false = true from fx) Bool.false_ne_true
 | int a =>
  obtain ⟨t', rfl⟩ := ry
  cases x with
  | non => cases rx; exact SeqAt.EqAt.int_none a t'
  | bl b => cases rx; exact SeqAt.EqAt.int_bool a t' b
  | int b => obtain ⟨t, rfl⟩ := rx; exact SeqAt.EqAt.int_int a t' b t
  | str b => obtain ⟨t, rfl⟩ := rx; exact SeqAt.EqAt.int_str a t' b t
  | _ => exact absurd (show false = true from fx) Bool.false_ne_true
 | str a =>
  obtain ⟨t', rfl⟩ := ry
  cases x with
  | non => cases rx; exact SeqAt.EqAt.str_none a t'
  | bl b => cases rx; exact SeqAt.EqAt.str_bool a t' b
  | int b => obtain ⟨t, rfl⟩ := rx; exact SeqAt.EqAt.str_int a t' b t
  | str b => obtain ⟨t, rfl⟩ := rx; exact SeqAt.EqAt.str_str a t' b t
  | _ => exact absurd (show false = true from fx) Bool.false_ne_true
 | _ => exact absurd (show false = true from fy) Bool.false_ne_true
def eqU (x : V) (u : Value) : Bool := match u with
 | .none => eqV .non x
 | .bool b => eqV (.bl b) x
 | .int i _ => eqV (.int i) x
 | .str z _ => eqV (.str z) x
 | _ => false
theorem eqU_of {x y : V} {u : Value} (r : RelV y u) (f : Zdb y = true) : eqU x u = eqV y x := by
 cases y with
 | non => cases r; rfl
 | bl b => cases r; rfl
 | int i => obtain ⟨t, rfl⟩ := r; rfl
 | str z => obtain ⟨t, rfl⟩ := r; rfl
 | _ => exact absurd (show false = true from f) Bool.false_ne_true
theorem ZdN {x : V} : ∀ {xs : List V} {us : List Value}, Vals xs us → xs.all Zdb = true → us.any (eqU x) = xs.any fun y => eqV y x
 | _, _, .nil, _ => rfl
 | y :: xs, u :: us, .cons r t, f => by
  rw [List.all_cons, Bool.and_eq_true] at f
  rw [List.any_cons, List.any_cons, eqU_of r f.1, ZdN t f.2]
theorem ZcL {A : Around} {s : Shared} {x : V} {v : Value} (rx : RelV x v) (fx : Zdb x = true) : ∀ {xs : List V} {us : List Value}, Vals xs us → xs.all Zdb = true → ∀ u ∈ us, SeqAt.EqAt A s u v (eqU x u)
 | _, _, .nil, _ => fun u hu => by cases hu
 | y :: xs, u :: us, .cons r t, f => fun u' hu => by
  rw [List.all_cons, Bool.and_eq_true] at f
  rcases List.mem_cons.mp hu with rfl | hu
  ·rw [eqU_of r f.1]; exact ZjV r rx f.1 fx
  ·exact ZcL rx fx t f.2 u' hu
def inV (x : V) (xs : List V) : Bool := xs.any fun y => eqV y x
def rIn (K : PySem.W.Frag) (neg : Bool) : R2 := fun x y H Q => ∃ p xs, y = .ref p ∧ (SqL K H p xs ∨ SqT K H p xs) ∧ Zdb x = true ∧ xs.all Zdb = true ∧ Q (.bl (if neg then !inV x xs else inV x xs)) H
theorem ZiQ : OpR X (compareOp .In) (rIn X.K false) := by
 intro pins s σ H x y v u Q I rx ry h
 obtain ⟨p, xs, rfl, hq, fx, fs, q⟩ := h
 cases ry
 rcases hq with hq | hq
 ·obtain ⟨its, r, pl, hz⟩ := I.list hq
  refine SeqAt.in_listAt (eqU x) pl.isList (fun w hw => ZcL rx fx r fs w (by simpa using hw)) ⟨.bl _, H, I, rfl, ?_⟩
  rw [show its.toArray.any (eqU x) = its.any (eqU x) by simp, ZdN r fs]
  exact q
 ·obtain ⟨its, r, pl, hz⟩ := I.tuple hq
  refine SeqAt.in_tupleAt (eqU x) pl (fun w hw => ZcL rx fx r fs w (by simpa using hw)) ⟨.bl _, H, I, rfl, ?_⟩
  rw [show its.toArray.any (eqU x) = its.any (eqU x) by simp, ZdN r fs]
  exact q
theorem Zfz : OpR X (compareOp .NotIn) (rIn X.K true) := by
 intro pins s σ H x y v u Q I rx ry h
 obtain ⟨p, xs, rfl, hq, fx, fs, q⟩ := h
 cases ry
 rcases hq with hq | hq
 ·obtain ⟨its, r, pl, hz⟩ := I.list hq
  refine SeqAt.notIn_listAt (eqU x) pl.isList (fun w hw => ZcL rx fx r fs w (by simpa using hw)) ⟨.bl _, H, I, rfl, ?_⟩
  rw [show its.toArray.any (eqU x) = its.any (eqU x) by simp, ZdN r fs]
  exact q
 ·obtain ⟨its, r, pl, hz⟩ := I.tuple hq
  refine SeqAt.notIn_tupleAt (eqU x) pl (fun w hw => ZcL rx fx r fs w (by simpa using hw)) ⟨.bl _, H, I, rfl, ?_⟩
  rw [show its.toArray.any (eqU x) = its.any (eqU x) by simp, ZdN r fs]
  exact q
theorem Zde : CallR X (.builtin "len") (fun xs H Q => ∃ p ys, xs = [.ref p] ∧ (SqL X.K H p ys ∨ SqT X.K H p ys) ∧ Q (.int ys.length) H) := by
 intro pins s σ H xs us Q I r h
 obtain ⟨p, ys, rfl, hq, q⟩ := h
 obtain ⟨u, rfl, rx⟩ := Zcc r
 cases rx
 have hn := Zfs
 rcases hq with hq | hq
 ·obtain ⟨its, r', pl, hz⟩ := I.list hq
  have hlen := r'.length
  exact Calls.call_len_list pl.isList (by simp only [List.size_toArray] <;> omega) ⟨.int ys.length, H, I.tok _, ⟨s.toks + 1, by rw [List.size_toArray, hlen]⟩, q⟩
 ·obtain ⟨its, r', pl, hz⟩ := I.tuple hq
  have hlen := r'.length
  exact len_tuple pl (by simp only [List.size_toArray] <;> omega) ⟨.int ys.length, H, I.tok _, ⟨s.toks + 1, by rw [List.size_toArray, hlen]⟩, q⟩
theorem CallR.or {f : Value} {r r' : List V → Hp → VK → Prop} (h : CallR X f r) (h' : CallR X f r') : CallR X f (fun xs H Q => r xs H Q ∨ r' xs H Q) := by
 intro pins s σ H xs us Q I rs q
 rcases q with q | q
 ·exact h pins s σ H xs us Q I rs q
 ·exact h' pins s σ H xs us Q I rs q
theorem Zdj : CallR X (.type "list") (fun xs H Q => ∃ p ys, xs = [.ref p] ∧ (SqL X.K H p ys ∨ SqT X.K H p ys) ∧ ∀ l, H l = none → Q (.ref l) (upd H l (.lst ys))) := by
 intro pins s σ H xs us Q I r h
 obtain ⟨p, ys, rfl, hq, q⟩ := h
 obtain ⟨u, rfl, rx⟩ := Zcc r
 cases rx
 have fin : ∀ (its : List Value), Vals ys its → ys.length ≤ sizeLine → ∀ (h' : Heap) (c' : Nat), (∀ b o', s.heap.get? b = some o' → h'.get? b = some o') →
   h'.get? s.heap.objs.size = some { cls := .type "list", dict := none, data := .seq its.toArray c', slots := #[] } → EP X pins σ Q (.ref s.heap.objs.size) { s with heap := h' } := fun its r' hz h' c' kp e =>
  ⟨.ref s.heap.objs.size, _, I.laid (t' := s.toks) kp (Nat.le_refl _) (show ObjOk X.prog X.w _ h' _ (.lst ys) from ⟨hz, its, c', r', e⟩), rfl, q _ (I.hok.fresh (Nat.le_refl _))⟩
 rcases hq with hq | hq
 ·obtain ⟨its, r', pl, hz⟩ := I.list hq
  have hlen := r'.length
  obtain ⟨o, ho, hc, n, hd⟩ := pl.isList
  exact call_list_seq p (.inl rfl) ho hc hd (fun h' c' kp e => fin its r' hz h' c' kp e) (by simp only [List.size_toArray] <;> omega)
 ·obtain ⟨its, r', pl, hz⟩ := I.tuple hq
  have hlen := r'.length
  obtain ⟨o, ho, hc, n, hd⟩ := pl
  exact call_list_seq p (.inr rfl) ho hc hd (fun h' c' kp e => fin its r' hz h' c' kp e) (by simp only [List.size_toArray] <;> omega)
def tyV (K : PySem.W.Frag) (T : String) (x : V) (H : Hp) : Prop := match x with
 | .str _ => T = "str"
 | .int _ => T = "int"
 | .ref p => (T = "list" ∧ ∃ xs, SqL K H p xs) ∨ (T = "tuple" ∧ ∃ o, K.lookup p = some o ∧ o.cls = .type "tuple" ∧ o.dict = none) ∨
   (T = "dict" ∧ ((∃ kvs, H p = some (.dK kvs)) ∨ ∃ kvs, H p = some (.dT kvs))) ∨ (T = "set" ∧ ∃ S n, H p = some (.set S n))
 | _ => False
theorem ZjK {pins : List (Addr × Obj)} {σ : St} {H : Hp} {s : Shared} {T : String} {x : V} {v : Value} (I : Inv X pins σ H s) (r : RelV x v) (ty : tyV X.K T x H) :
  s.TypeIs v T ∧ ∀ a, v = .ref a → ∃ ob, s.heap.get? a = some ob ∧ ob.dict = none := by
 cases x with
 | str z =>
  obtain ⟨t, rfl⟩ := r
  cases (show T = "str" from ty)
  exact ⟨typeIs_str s z t, fun _ e => nomatch e⟩
 | int i =>
  obtain ⟨t, rfl⟩ := r
  cases (show T = "int" from ty)
  exact ⟨typeIs_int s i t, fun _ e => nomatch e⟩
 | ref p =>
  cases r
  rcases ty with ⟨rfl, xs, hq⟩ | ⟨rfl, o, hk, hc, hd⟩ | ⟨rfl, hk⟩ | ⟨rfl, S, n, hk⟩
  ·obtain ⟨its, _, pl, _⟩ := I.list hq
   refine ⟨pl.isList.typeIs, fun a e => ?_⟩
   cases e
   obtain ⟨o, n, e, c, hd, _⟩ := pl
   exact ⟨o, e, hd⟩
  ·refine ⟨⟨o, I.kIn p o hk, hc⟩, fun a e => ?_⟩
   cases e
   exact ⟨o, I.kIn _ o hk, hd⟩
  ·have z : ∃ o, s.heap.get? p = some o ∧ o.ExactDict := by
    rcases hk with ⟨kvs, hk⟩ | ⟨kvs, hk⟩
    ·obtain ⟨_, _, _, _, o, _, _, e, ex, _⟩ := I.hok p _ hk
     exact ⟨o, e, ex⟩
    ·obtain ⟨_, _, _, _, o, _, _, e, ex, _⟩ := I.hok p _ hk
     exact ⟨o, e, ex⟩
   obtain ⟨o, e, ex⟩ := z
   refine ⟨⟨o, e, ex.1⟩, fun a e2 => ?_⟩
   cases e2
   exact ⟨o, e, ex.2.1⟩
  ·obtain ⟨o, _, _, _, e, ex, _⟩ := I.hok p _ hk
   refine ⟨⟨o, e, ex.1⟩, fun a e2 => ?_⟩
   cases e2
   exact ⟨o, e, ex.2.1⟩
 | _ => exact False.elim ty
def tBM (K : PySem.W.Frag) (T : String) (r : V → List V → Hp → VK → Prop) (to : TE) (t : TA) : TE := fun σ H Q => to σ H fun x H1 => tyV K T x H1 ∧ t σ H1 fun xs H2 => r x xs H2 Q
variable {o e : Expr} {es : List Expr} {to : TE} {t : TA} {name : Str} {apos cpos : Pos} {T id : String} {r : V → List V → Hp → VK → Prop}
end
end L2
namespace L2
open PySem PySem.Spec PyProof.Rows
def MtM (X : Cx) (id : String) (r : V → List V → Hp → VK → Prop) : Prop :=
 ∀ (pins : List (Addr × Obj)) (s : Shared) (σ : St) (H : Hp) (x : V) (xs : List V) (v : Value) (us : List Value) (Q : VK), Inv X pins σ H s → RelV x v → Vals xs us → r x xs H Q →
  wpAny (model X.prog X.w) X.A (call (.builtin id) (v :: us)) (EP X pins σ Q) X.xe s
theorem Vals.one : ∀ {x : V} {us : List Value}, Vals [x] us → ∃ u, us = [u] ∧ RelV x u
 | _, _, .cons r .nil => ⟨_, rfl, r⟩
theorem Vals.zero : ∀ {us : List Value}, Vals [] us → us = []
 | _, .nil => rfl
theorem Vals.dropLast {xs : List V} {us : List Value} (h : Vals xs us) : Vals xs.dropLast us.dropLast := by
 induction h with
 | nil => exact .nil
 | cons r t ih =>
  cases t with
  | nil => exact .nil
  | cons q t' => exact .cons r ih
theorem Vals.eraseIdx : ∀ {xs : List V} {us : List Value} (i : Nat), Vals xs us → Vals (xs.eraseIdx i) (us.eraseIdx i)
 | _, _, _, .nil => .nil
 | _, _, 0, .cons _ t => t
 | _, _, i + 1, .cons r t => .cons r (Vals.eraseIdx i t)
theorem Vals.reverse {xs : List V} {us : List Value} (h : Vals xs us) : Vals xs.reverse us.reverse := by
 induction h with
 | nil => exact .nil
 | cons r t ih => rw [List.reverse_cons, List.reverse_cons]; exact Vals.append ih (.cons r .nil)
theorem ZhK {α : Type} (l : List α) : l.eraseIdx (l.length - 1) = l.dropLast := by
 induction l with
 | nil => rfl
 | cons a r ih =>
  cases r with
  | nil => rfl
  | cons b r =>
   have e : (a :: b :: r).length - 1 = ((b :: r).length - 1) + 1 := by
    have h1 : (a :: b :: r).length = r.length + 2 := rfl
    have h2 : (b :: r).length = r.length + 1 := rfl
    omega
   rw [e, List.eraseIdx_cons_succ, ih]
   all_goals rfl
section
variable {X : Cx} {pins : List (Addr × Obj)} {σ : St} {H : Hp} {s : Shared} {l b : Addr} {xs ys zs : List V}
theorem Inv.lset {its its' : List Value} {n : Nat} {f : Array Value → Array Value} {t' : Nat} (I : Inv X pins σ H s) (hH : H l = some (.lst xs))
  (e : s.heap.get? l = some { cls := .type "list", data := .seq its.toArray n }) (hf : f its.toArray = its'.toArray) (hv : Vals ys its') (hz : ys.length ≤ sizeLine) :
  Inv X pins σ (upd H l (.lst ys)) { s with heap := s.heap.update l (Obj.mapSeq f), toks := t' } := by
 have q := PySem.IsL.update e f
 rw [hf] at q
 refine I.write (x := l) (e := l) (by rw [hH]; exact trivial) (.inl rfl) (fun b' u hb hu => (Heap.get?_update_other s.heap (Obj.mapSeq f) (Ne.symm hb)).trans hu) ⟨_, q⟩ ?_
 exact ⟨hz, its', _, hv, q⟩
theorem Inv.lnew {its : List Value} {t' : Nat} (I : Inv X pins σ H s) (hv : Vals ys its) (hz : ys.length ≤ sizeLine) :
  Inv X pins σ (upd H s.heap.objs.size (.lst ys)) { s with heap := s.heap.push { cls := .type "list", data := .seq its.toArray }, toks := t' } :=
 I.laid (fun _ _ q => Heap.get?_push_of_some _ q) (Nat.le_refl _) ⟨hz, its, 0, hv, Heap.get?_push_size _ rfl⟩
theorem Inv.fresh (I : Inv X pins σ H s) : H s.heap.objs.size = none := I.hok.fresh (Nat.le_refl _)
theorem Inv.lstM (I : Inv X pins σ H s) (hH : H l = some (.lst xs)) : xs.length ≤ sizeLine ∧ ∃ (its : List Value) (n : Nat), Vals xs its ∧ xs.length = its.length ∧ s.heap.get? l = some { cls := .type "list", data := .seq its.toArray n } := by
 obtain ⟨z, its, n, r, e⟩ := I.hok l _ hH
 exact ⟨z, its, n, r, r.length, e⟩
theorem Zlw {n : Nat} (h : n ≤ sizeLine) : Builtin.List.listTooLong n = false := by
 unfold Builtin.List.listTooLong
 exact decide_eq_false (by omega)
end
section
variable {X : Cx}
def ZfT : V → List V → Hp → VK → Prop := fun x vs H Q => ∃ l xs y, x = .ref l ∧ vs = [y] ∧ H l = some (.lst xs) ∧ xs.length < sizeLine ∧ Q .non (upd H l (.lst (xs ++ [y])))
theorem Zfh : MtM X "list.append" ZfT := by
 intro pins s σ H x vs v us Q I rx rv h
 obtain ⟨l, xs, y, rfl, rfl, hH, hz, q⟩ := h
 cases rx
 obtain ⟨u, rfl, ru⟩ := rv.one
 obtain ⟨z, its, n, r, hl, e⟩ := I.lstM hH
 refine call_meets F.slot_list_append ⟨_, e, rfl⟩ F.entry_list_append (F.args_list_append_2 _ _) (PySem.list_append l its.toArray n u (by rw [List.size_toArray]; omega)) ⟨e, ?_⟩
 refine ⟨.non, _, I.lset (its' := its ++ [u]) hH e (by simp) (r.append (.cons ru .nil)) ?_, rfl, q⟩
 rw [List.length_append, List.length_singleton]
 omega
def ZeG : V → List V → Hp → VK → Prop := fun x vs H Q => ∃ l b xs zs, x = .ref l ∧ vs = [.ref b] ∧ H l = some (.lst xs) ∧ H b = some (.lst zs) ∧ xs.length + zs.length ≤ sizeLine ∧ Q .non (upd H l (.lst (xs ++ zs)))
theorem Zjy : MtM X "list.extend" ZeG := by
 intro pins s σ H x vs v us Q I rx rv h
 obtain ⟨l, b, xs, zs, rfl, rfl, hH, hB, hz, q⟩ := h
 cases rx
 obtain ⟨u, rfl, ru⟩ := rv.one
 cases ru
 obtain ⟨z, its, n, r, hl, e⟩ := I.lstM hH
 obtain ⟨z2, its2, n2, r2, hl2, e2⟩ := I.lstM hB
 have hsz : its.toArray.size + its2.toArray.size ≤ sizeLine := by rw [List.size_toArray, List.size_toArray]; omega
 have hlong : ¬ (!its.toArray.isEmpty && Builtin.List.listTooLong (its.toArray.size + its2.toArray.size)) = true := by
  rw [Zlw hsz, Bool.and_false]
  exact Bool.false_ne_true
 refine call_meets F.slot_list_extend ⟨_, e, rfl⟩ F.entry_list_extend (F.args_list_extend_2 _ _)
  (AutoSeq1.list_extend_list_list_0 l its.toArray n b its2.toArray n2 hlong (by rw [List.size_toArray]; omega) (by omega)) ⟨e, e2, ?_⟩
 refine ⟨.non, _, I.lset (its' := its ++ its2) hH e (by simp) (r.append r2) ?_, rfl, q⟩
 rw [List.length_append]
 omega
def rPop : V → List V → Hp → VK → Prop := fun x vs H Q => ∃ l xs y, x = .ref l ∧ vs = [] ∧ H l = some (.lst xs) ∧ xs[xs.length - 1]? = some y ∧ Q y (upd H l (.lst xs.dropLast))
theorem mt_pop : MtM X "list.pop" rPop := by
 intro pins s σ H x vs v us Q I rx rv h
 obtain ⟨l, xs, y, rfl, rfl, hH, hy, q⟩ := h
 cases rx
 have hus := rv.zero
 subst hus
 obtain ⟨z, its, n, r, hl, e⟩ := I.lstM hH
 obtain ⟨u, hu, ru⟩ := r.get hy
 have hy' : its.toArray[its.toArray.size - 1]? = some u := by
  show its.toArray[its.length - 1]? = some u
  rw [← Array.getElem?_toList, ← hl]
  exact hu
 refine call_meets F.slot_list_pop ⟨_, e, rfl⟩ F.entry_list_pop (F.args_list_pop_1 _) (MeetsSeq.list_pop_last l its.toArray n u hy' (by rw [List.size_toArray]; omega)) ⟨e, ?_⟩
 refine ⟨y, _, I.lset (its' := its.dropLast) hH e ?_ r.dropLast ?_, ru, q⟩
 ·show its.toArray.eraseIdxIfInBounds (its.toArray.size - 1) = its.dropLast.toArray
  rw [List.size_toArray, List.eraseIdxIfInBounds_toArray, ZhK]
 ·rw [List.length_dropLast]
  omega
def Zg4 : V → List V → Hp → VK → Prop := fun x vs H Q => ∃ l xs, x = .ref l ∧ vs = [] ∧ H l = some (.lst xs) ∧ Q .non (upd H l (.lst xs.reverse))
def rClear : V → List V → Hp → VK → Prop := fun x vs H Q => ∃ l xs, x = .ref l ∧ vs = [] ∧ H l = some (.lst xs) ∧ Q .non (upd H l (.lst []))
def rCat : R2 := fun x y H Q => ∃ l b xs zs, x = .ref l ∧ y = .ref b ∧ H l = some (.lst xs) ∧ H b = some (.lst zs) ∧ xs.length + zs.length ≤ sizeLine ∧ ∀ p, H p = none → Q (.ref p) (upd H p (.lst (xs ++ zs)))
theorem op_cat : OpR X (binaryOp .Add) rCat := by
 intro pins s σ H x y v u Q I rx ry h
 obtain ⟨l, b, xs, zs, rfl, rfl, hH, hB, hz, q⟩ := h
 cases rx
 cases ry
 obtain ⟨z, its, n, r, hl, e⟩ := I.lstM hH
 obtain ⟨z2, its2, n2, r2, hl2, e2⟩ := I.lstM hB
 refine PySem.P.add_list e e2 ?_ (by rw [List.size_toArray, List.size_toArray]; omega)
 have ea : its.toArray ++ its2.toArray = (its ++ its2).toArray := by simp
 rw [ea]
 exact ⟨.ref _, _, I.lnew (t' := s.toks) (r.append r2) (by rw [List.length_append]; omega), rfl, q _ I.fresh⟩
end
section
variable {prog : Program} {w : World} {A : Around} {E : Value → Shared → Prop} {s : Shared}
end
section
variable {X : Cx}
end
end L2
namespace Att
open PySem PySem.W PySem.Calls PyProof.Rows
theorem Zd6 {P : Params} {h : Heap} : ∀ (ns : List Int) (vs : List Value), WellAll P h vs (ns.map WData.int) → IntsAre vs ns := by
 intro ns
 induction ns with
 | nil =>
  intro vs w
  rw [List.map_nil] at w
  cases w
  exact .nil
 | cons n ns ih =>
  intro vs w
  rw [List.map_cons] at w
  cases w with
  | cons a b =>
   cases a
   exact .cons _ _ (ih _ b)
theorem Zi9 {l : OpenLaw} {n : Nat} (hn : l.most = some n) {P : Params} {h : Heap} {args : List WData} {vals : List Value}
  (hpre : l.row.toRowW.claim.pre args = true) (hwl : WellAll P h vals args) :
  ∃ a vs ns, vals = [Value.ref a] ∧ args = [WData.list (ns.map WData.int)] ∧ h.get? a = some { cls := .type "list", data := .seq vs.toArray } ∧ IntsAre vs ns ∧ ns.length ≤ n := by
 have hsh : WShape.hasAll [] args [.list .int] = true := (pre_splitW hpre).1
 have hc : l.pre.holds [] { args := args } = true := (pre_splitW hpre).2
 obtain ⟨d, r, rfl, h1, h2⟩ := hasAllW_cons hsh
 obtain rfl := hasAllW_nil h2
 obtain ⟨xs, rfl, h3⟩ := hasW_list h1
 obtain ⟨ns, rfl⟩ := items_int h3
 have hlen : ns.length ≤ n := by
  unfold OpenLaw.pre at hc
  have h4 : (WTm.not (.lt (.lit (.int (n : Int))) (.len (.arg 0)))).holds [] { args := [.list (ns.map .int)] } = true := by
   have h4 := (holds_andW hc).1
   rw [hn] at h4
   exact h4
  have h5 := condW_of h4 (w_not (w_lt w_lit (w_len_list (w_arg rfl))))
  rw [List.length_map] at h5
  refine Nat.le_of_not_lt fun q => ?_
  have q' : (n : Int) < ((ns.length : Nat) : Int) := by omega
  first
   | (rw [decide_eq_true q'] at h5; exact absurd h5 (by decide))
   | (simp at h5; omega)
 cases hwl with
 | cons w1 w2 =>
  cases w2
  cases w1 with
  | list ho hall => exact ⟨_, _, ns, rfl, rfl, ho, Zd6 ns _ hall, hlen⟩
theorem Zin (l : OpenLaw) (args : List WData) : l.row.toRowW.claim.post args (.bool true) args = true :=
 postW_of (r := l.row.toRowW) (X := (true == true))
  (show WShape.has [] (.bool true) .bool = true by first | rfl | decide | simp [WShape.has, WShape.arms, WShape.armsAll])
  (show (WTm.eq .res (.lit (.bool true))).value [] { args := args, res := some (.bool true), after := args } = some (.bool (true == true)) from w_eq_bool (w_res rfl) w_lit) rfl
theorem attach_call {l : OpenLaw} {n : Nat} {q : Program} {loose : List Str} {XP : (Str → Option Value) → Heap → Prop} {YP : World → Heap → Prop} {d : DefRec}
  (hn : l.most = some n) (hdf : d.params.defaults = [])
  (call : ∀ (w : World) (s₀ s₁ : Shared) (mg mb : Str → Option Value) (fa : Addr) (o : Obj) (pm cd doc : Value) (a : Addr) (vs : List Value) (ns : List Int),
   Ground q loose [] XP w s₀ mg mb s₁.heap → YP w s₁.heap →
   s₁.heap.get? fa = some o → o.data = .func (docDef d.name d.params d.body d.scope pm cd doc) → s₁.heap.CodeRec cd d.name → mg d.name = some (.ref fa) →
   s₁.heap.get? a = some { cls := .type "list", data := .seq vs.toArray } → IntsAre vs ns → ns.length ≤ n → s₁.gens = #[] →
   codeAny (model l.prog w) callerA (.call (.ref fa) ⟨[.ref a], []⟩) (fun r s' => r = .ok (.ret (.bool true)) ∧ OldK s₁.heap s'.heap ∧ s'.os = s₁.os ∧ AllBare s'.gens) s₁) :
  WalkO q loose XP YP l.row.toRowW d [] (fun f vs => PySem.call f vs) := by
 intro w s₀ s₁ mg mb G Y fa o pm cd doc dV kV ho hd hcd hD hmg hg args vals as hpre hlay hrd hwl hlo
 obtain rfl : dV = .none := Dflts.none hD hdf
 obtain rfl : kV = .none := Dflts.noKw hD
 obtain ⟨a, vs, ns, rfl, rfl, hobj, hints, hlen⟩ := Zi9 hn hpre hwl
 refine enter_call (codeAny_mono (call w s₀ s₁ mg mb fa o pm cd doc a vs ns G Y ho (fd_plain hd) hcd hmg hobj hints hlen hg) fun r s' hq => ?_)
 obtain ⟨rfl, h2, h3, h4⟩ := hq
 exact ⟨.inl ⟨.bool true, .bool true, [], rfl, fun _ => rfl, .bool true, Zin l _, fun _ => ⟨List.Pairwise.nil, fun _ hm => (nomatch hm)⟩⟩, h2, h3, h4⟩
section
variable {prog : Program} {w : World} {A : Around} {E : Value → Shared → Prop} {s : Shared} {K : Frag}
def noObjs (h : Heap) : Heap := { h with objs := #[] }
theorem noObjs_get (h : Heap) (b : Addr) : (noObjs h).get? b = none := by
 cases e : (noObjs h).get? b with
 | none => rfl
 | some o => exact absurd (Heap.lt_size e) (Nat.not_lt_zero _)
theorem fr_all {h : Heap} {L : Addr} {m : Str → Option Value} (n : h.Ns L m) : Fr (noObjs h) L h m :=
 ⟨n, fun b o e => (by rw [noObjs_get] at e; cases e), Nat.zero_le _⟩
end
end Att
namespace L2
open PySem PySem.Spec PyProof.Rows
theorem Zck : ∀ {vs : List Value} {ns : List Int}, IntsAre vs ns → Vals (ns.map V.int) vs
 | _, _, .nil => .nil
 | _, _, .cons n t h => .cons ⟨t, rfl⟩ (Zck h)
end L2
namespace L2
open PySem PySem.Spec PyProof.Rows
end L2
namespace L2
open PySem PySem.Spec PyProof.Rows
def ZcG (s : Stmt) (j : Nat) : Stmt := match s with
 | .ClassDef _ _ _ body _ _ _ _ _ _ _ => body.getD j (.Pass ⟨0, 0, 0, 0⟩)
 | _ => .Pass ⟨0, 0, 0, 0⟩
def Zag (s : Stmt) : Arguments := match s with
 | .FunctionDef _ a _ _ _ _ _ _ _ _ => a
 | _ => { posonlyargs := [], args := [], vararg := none, kwonlyargs := [], kw_defaults := [], kwarg := none, defaults := [] }
def Zaf (s : Stmt) : List Stmt := match s with
 | .FunctionDef _ _ b _ _ _ _ _ _ _ => b
 | _ => []
def Zaa (s : Stmt) : Scope := match s with
 | .FunctionDef _ _ _ _ _ _ sc _ _ _ => sc
 | _ => { kind := .function, names := [], isGenerator := false, isCoroutine := false }
abbrev CX0 : CXT := fun _ _ _ _ _ _ => False
abbrev E0 : XK := fun _ _ _ => False
theorem Zia {X : Cx} : ZdR CX0 X E0 := fun _ _ _ _ _ _ _ h => h.elim
structure Fun (K : PySem.W.Frag) (x qual : Str) (st : Stmt) (f : Addr) (fd : FuncData) : Prop where
 ex : ∃ (oc : Value) (od : Option Addr) (kV doc pm : Value) (an : Option Addr) (cdv ct : Value) (osl : Array (Option Value)),
  fd = PySem.W.fnOf x qual (Zag st) (Zaf st) (Zaa st) .none kV doc pm an cdv ct ∧ K.lookup f = some ⟨oc, od, .func fd, osl⟩ ∧ PySem.W.codeIn K cdv qual = true
 kp : PySem.W.keepIn K (.ref f) = true
section
variable {P : Program} {w : World} {K : PySem.W.Frag} {mg : Str → Option Value} {base : Heap}
theorem Fun.ok {x qual : Str} {st : Stmt} {f : Addr} {fd : FuncData} {N ps : List Str} {k : Nat} {sp : Sp} (F : Fun K x qual st f fd) (S : FnScope N ps (Zaa st)) (len : ∀ vs H Q E, sp vs H Q E → vs.length = ps.length)
  (hbody : ∀ (cdv : Value) (A : Around) (outer : List Env) (s : Shared) (H : Hp) (vs : List V) (Q : VK) (E : XK), Room k (A.deeper (envOfC qual (Zaa st) s.heap.objs.size f cdv)) → sp vs H Q E →
   ∃ t, PSs (Zh3 CX0 P w K mg base N qual (Zaa st) f cdv A outer s H E).nox (Zaf st) t ∧ t { nx := fun _ H' => Q .non H', rt := Q } (Zav N vs) H) : FnOk P w K mg base CX0 (k + 1) f fd ps sp := by
 obtain ⟨oc, od, kV, doc, pm, an, cdv, ct, osl, rfl, lk, hcd⟩ := F.ex
 refine fn_of lk hcd S len fun A outer s H vs Q E hr hsp => ?_
 obtain ⟨t, h, q⟩ := hbody cdv A outer s H vs Q E hr hsp
 exact ⟨t, h.nox, q⟩
theorem Fun.binds {x qual : Str} {st : Stmt} {f : Addr} {fd : FuncData} {ps : List Str} (F : Fun K x qual st f fd)
  (h : ∀ (kV doc pm : Value) (an : Option Addr) (cdv ct : Value) (us : List Value), us.length = ps.length → bindArgs (PySem.W.fnOf x qual (Zag st) (Zaf st) (Zaa st) .none kV doc pm an cdv ct) ⟨us, []⟩ = pure (ps.zip us)) : Binds K fd ps [] := by
 obtain ⟨oc, od, kV, doc, pm, an, cdv, ct, osl, rfl, lk, hcd⟩ := F.ex
 exact .all (h kV doc pm an cdv ct)
theorem Zaq {x qual : Str} {st : Stmt} {f : Addr} {oc : Value} {od an : Option Addr} {osl : Array (Option Value)} {kV doc pm cdv ct : Value} (l : K.lookup f = some ⟨oc, od, .func (PySem.W.fnOf x qual (Zag st) (Zaf st) (Zaa st) .none kV doc pm an cdv ct), osl⟩)
  (c : PySem.W.codeIn K cdv qual = true) (k : PySem.W.keepIn K (.ref f) = true) : Fun K x qual st f (PySem.W.fnOf x qual (Zag st) (Zaf st) (Zaa st) .none kV doc pm an cdv ct) := ⟨⟨oc, od, kV, doc, pm, an, cdv, ct, osl, rfl, l, c⟩, k⟩
end
theorem ZbL {A : Around} {k : Nat} (hr : Room k A) : A.units + 1 < cLine := Nat.lt_of_le_of_lt (Nat.add_le_add_left (by decide : 1 ≤ 64) _) hr.units
theorem Zfv {n : Nat} (h : n ≤ 1000) : n < sizeLine := Nat.lt_of_le_of_lt h (by decide)
section
variable {X : Cx}
theorem pv (i : Nat) {x : Str} {pos : Pos} (hN : X.N[i]? = some x := by rfl) (hv : Vis X.env.scope x := by first | exact Or.inl rfl | exact Or.inr (Or.inl rfl) | exact Or.inr (Or.inr rfl)) (hd : (x == ("__debug__" : Str)) = false := by decide)
  (hcd : (x == ("__classdict__" : Str)) = false := by decide) : PE X (.Name x pos) (tVar i) := pe_var hN hv hd hcd
end
theorem Ze9 {c A B : Prop} [Decidable c] (h1 : c → A) (h2 : ¬ c → B) : if c then A else B := by
 by_cases h : c
 ·rw [if_pos h]
  exact h1 h
 ·rw [if_neg h]
  exact h2 h
def Same (H H' : Hp) : Prop := ∀ b o, H b = some o → H' b = some o
theorem Same.refl (H : Hp) : Same H H := fun _ _ h => h
theorem Same.trans {H H1 H2 : Hp} (a : Same H H1) (b : Same H1 H2) : Same H H2 := fun c o h => b c o (a c o h)
theorem Same.free {H H' : Hp} (e : Same H H') {l : Addr} (h : H' l = Option.none) : H l = Option.none := by
 cases q : H l with
 | none => rfl
 | some o =>
  rw [e l o q] at h
  cases h
theorem Same.seq {K : PySem.W.Frag} {H H' : Hp} {a : Addr} {xs : List V} (e : Same H H') (h : SqL K H a xs) : SqL K H' a xs := by
 rcases h with (h | ⟨o, h⟩) | h
 ·exact .inl (.inl (e _ _ h))
 ·exact .inl (.inr ⟨o, e _ _ h⟩)
 ·exact .inr h
end L2
namespace L2
open PySem PySem.Spec PyProof.Rows
section
variable {κ : Type} [DecidableEq κ]
def Zdn (kvs : List (κ × V)) (k : κ) : Option V := (kvs.find? fun kv => decide (kv.1 = k)).map (·.2)
def Zbr (kvs : List (κ × V)) (k : κ) (v : V) : List (κ × V) :=
 if (kvs.any fun kv => decide (kv.1 = k)) = true then kvs.map (fun kv => if kv.1 = k then (kv.1, v) else kv) else kvs ++ [(k, v)]
def dropK (kvs : List (κ × V)) (k : κ) : List (κ × V) := kvs.filter fun kv => decide (kv.1 ≠ k)
theorem ZcI {p : κ × V} {r : List (κ × V)} {k : κ} (e : p.1 = k) : Zdn (p :: r) k = some p.2 := by simp [Zdn, List.find?_cons, e]
theorem ZcQ {p : κ × V} {r : List (κ × V)} {k : κ} (e : ¬ p.1 = k) : Zdn (p :: r) k = Zdn r k := by simp [Zdn, List.find?_cons, e]
theorem ZeJ (k : κ) : ∀ kvs : List (κ × V), (kvs.any fun kv => decide (kv.1 = k)) = (Zdn kvs k).isSome
 | [] => rfl
 | p :: r => by
  rw [List.any_cons]
  by_cases e : p.1 = k
  ·simp only [ZcI e, decide_eq_true e, Bool.true_or, Option.isSome_some]
  ·rw [ZcQ e, decide_eq_false e, Bool.false_or]; exact ZeJ k r
theorem Zcz (kvs : List (κ × V)) (k : κ) (v : V) : (Zbr kvs k v).length ≤ kvs.length + 1 := by
 unfold Zbr
 split
 ·rw [List.length_map]; omega
 ·rw [List.length_append, List.length_cons, List.length_nil]; omega
theorem Zk8 {kvs : List (κ × V)} {k : κ} (v : V) (h : Zdn kvs k = none) : Zbr kvs k v = kvs ++ [(k, v)] := by
 unfold Zbr
 rw [ZeJ, h]
 exact if_neg (by decide)
theorem RelO.isSome_eq {o : Option V} {u : Option Value} (r : RelO o u) : o.isSome = u.isSome := by
 cases o with
 | none => cases u with
  | none => rfl
  | some _ => exact (show False from r).elim
 | some _ => cases u with
  | none => exact (show False from r).elim
  | some _ => rfl
theorem RelO.getD {o : Option V} {u : Option Value} {d : V} {d' : Value} (r : RelO o u) (rd : RelV d d') : RelV (o.getD d) (u.getD d') := by
 cases o with
 | none => cases u with
  | none => exact rd
  | some _ => exact (show False from r).elim
 | some _ => cases u with
  | none => exact (show False from r).elim
  | some _ => exact r
theorem KV.val {kvs : List (κ × V)} {vs : List (κ × Value)} (r : KV kvs vs) (k : κ) : RelO (Zdn kvs k) (valueAt vs k) := by
 unfold KV at r
 induction r with
 | nil => exact True.intro
 | @cons p q ps qs h t ih =>
  obtain ⟨h1, h2⟩ := h
  by_cases e : p.1 = k
  ·have e' : q.1 = k := h1.symm.trans e
   have b : valueAt (q :: qs) k = some q.2 := by simp [valueAt, List.find?_cons, e']
   rw [ZcI e, b]; exact h2
  ·have e' : ¬ q.1 = k := fun z => e (h1.trans z)
   have b : valueAt (q :: qs) k = valueAt qs k := by simp [valueAt, List.find?_cons, e']
   rw [ZcQ e, b]; exact ih
theorem KV.any {kvs : List (κ × V)} {vs : List (κ × Value)} (r : KV kvs vs) (k : κ) : (kvs.any fun kv => decide (kv.1 = k)) = vs.any fun kv => decide (kv.1 = k) := by
 unfold KV at r
 induction r with
 | nil => rfl
 | cons h t ih => rw [List.any_cons, List.any_cons, ih, h.1]
theorem KV.repl {kvs : List (κ × V)} {vs : List (κ × Value)} (r : KV kvs vs) (k : κ) {y : V} {u : Value} (ry : RelV y u) :
  KV (kvs.map fun kv => if kv.1 = k then (kv.1, y) else kv) (vs.map fun kv => if kv.1 = k then (kv.1, u) else kv) := by
 unfold KV at r ⊢
 induction r with
 | nil => exact .nil
 | @cons p q ps qs h t ih =>
  rw [List.map_cons, List.map_cons]
  refine .cons ?_ ih
  obtain ⟨h1, h2⟩ := h
  by_cases e : p.1 = k
  ·rw [if_pos e, if_pos (h1.symm.trans e)]; exact ⟨h1, ry⟩
  ·rw [if_neg e, if_neg (fun z => e (h1.trans z))]; exact ⟨h1, h2⟩
theorem KV.put {kvs : List (κ × V)} {vs : List (κ × Value)} (r : KV kvs vs) (k : κ) {y : V} {u : Value} (ry : RelV y u) : KV (Zbr kvs k y) (stored vs k u) := by
 unfold Zbr stored
 rw [r.any k]
 by_cases e : (vs.any fun kv => decide (kv.1 = k)) = true
 ·rw [if_pos e, if_pos e]; exact r.repl k ry
 ·rw [if_neg e, if_neg e]; exact Paired.snoc r ⟨rfl, ry⟩
theorem KV.drop {kvs : List (κ × V)} {vs : List (κ × Value)} (r : KV kvs vs) (k : κ) : KV (dropK kvs k) (without vs k) := by
 unfold KV at r ⊢
 unfold dropK without
 induction r with
 | nil => exact .nil
 | @cons p q ps qs h t ih =>
  obtain ⟨h1, h2⟩ := h
  rw [List.filter_cons, List.filter_cons]
  by_cases e : p.1 = k
  ·have a : ¬ decide (p.1 ≠ k) = true := by simp [e]
   have b : ¬ decide (q.1 ≠ k) = true := by simp [h1.symm.trans e]
   rw [if_neg a, if_neg b]; exact ih
  ·have e' : ¬ q.1 = k := fun z => e (h1.trans z)
   have a : decide (p.1 ≠ k) = true := by simp [e]
   have b : decide (q.1 ≠ k) = true := by simp [e']
   rw [if_pos a, if_pos b]; exact .cons ⟨h1, h2⟩ ih
theorem KV.keys {kvs : List (κ × V)} {vs : List (κ × Value)} (r : KV kvs vs) : kvs.map (·.1) = vs.map (·.1) := by
 unfold KV at r
 induction r with
 | nil => rfl
 | cons h t ih => rw [List.map_cons, List.map_cons, ih, h.1]
theorem KV.length {kvs : List (κ × V)} {vs : List (κ × Value)} (r : KV kvs vs) : kvs.length = vs.length := Paired.length r
end
theorem ZkX {P : Program} {w : World} {k : Key} {u : Value} (r : RelV (kV k) u) : (ZaO P w).is k u = true := by
 cases k with
 | inl i => obtain ⟨t, e⟩ := (show ∃ t, u = Value.int i t from r); subst e; exact Zgf P w i t
 | inr x => obtain ⟨t, e⟩ := (show ∃ t, u = Value.str x t from r); subst e; exact Zgh P w x t
theorem ZfD {P : Program} {w : World} : ∀ {ks : List Key} {us : List Value}, Vals (ks.map kV) us → ItemsAre (ZaO P w) ks us
 | [], _, r => by rw [List.map_nil] at r; cases r; exact .nil
 | k :: ks, _, r => by
  rw [List.map_cons] at r
  cases r with
  | cons h t => exact .cons (ZkX h) (ZfD t)
abbrev KT (H : Hp) : List (List Key × V) → List (List Key × Addr × Value) → Prop := Paired fun p q => p.1 = q.1 ∧ H q.2.1 = some (.tup (p.1.map kV)) ∧ RelV p.2 q.2.2
theorem KT.val {H : Hp} {kvs : List (List Key × V)} {xs : List (List Key × Addr × Value)} (r : KT H kvs xs) (k : List Key) : RelO (Zdn kvs k) ((atKey xs k).map (·.2)) := by
 induction r with
 | nil => exact True.intro
 | @cons p q ps qs h t ih =>
  obtain ⟨h1, _, h2⟩ := h
  by_cases e : p.1 = k
  ·have e' : q.1 = k := h1.symm.trans e
   have b : atKey (q :: qs) k = some q.2 := by simp [atKey, List.find?_cons, e']
   rw [ZcI e, b]; exact h2
  ·have e' : ¬ q.1 = k := fun z => e (h1.trans z)
   have b : atKey (q :: qs) k = atKey qs k := by simp [atKey, List.find?_cons, e']
   rw [ZcQ e, b]; exact ih
theorem KT.repl {H : Hp} {kvs : List (List Key × V)} {xs : List (List Key × Addr × Value)} (r : KT H kvs xs) (k : List Key) {y : V} {u : Value} (ry : RelV y u) :
  KT H (kvs.map fun kv => if kv.1 = k then (kv.1, y) else kv) (xs.map (putAt k u)) := by
 induction r with
 | nil => exact .nil
 | @cons p q ps qs h t ih =>
  rw [List.map_cons, List.map_cons]
  refine .cons ?_ ih
  obtain ⟨h1, h2, h3⟩ := h
  unfold putAt
  by_cases e : p.1 = k
  ·rw [if_pos e, if_pos (h1.symm.trans e)]; exact ⟨h1, h2, ry⟩
  ·rw [if_neg e, if_neg (fun z => e (h1.trans z))]; exact ⟨h1, h2, h3⟩
theorem KT.put {H : Hp} {kvs : List (List Key × V)} {xs : List (List Key × Addr × Value)} (r : KT H kvs xs) (k : List Key) {b : Addr} {y : V} {u : Value} (hb : H b = some (.tup (k.map kV))) (ry : RelV y u) :
  KT H (Zbr kvs k y) (storedH xs k b u) := by
 have e : (kvs.any fun kv => decide (kv.1 = k)) = (atKey xs k).isSome := by
  rw [ZeJ, (r.val k).isSome_eq, Option.isSome_map]
 unfold Zbr storedH
 rw [e]
 by_cases q : (atKey xs k).isSome = true
 ·rw [if_pos q, if_pos q]; exact r.repl k ry
 ·rw [if_neg q, if_neg q]; exact Paired.snoc r ⟨rfl, hb, ry⟩
theorem KT.keeps {H H' : Hp} {kvs : List (List Key × V)} {xs : List (List Key × Addr × Value)} (r : KT H kvs xs) (ht : ∀ b ys, H b = some (.tup ys) → H' b = some (.tup ys)) : KT H' kvs xs :=
 Paired.mapP r fun _ _ z => ⟨z.1, ht _ _ z.2.1, z.2.2⟩
section
variable {P : Program} {w : World} {H : Hp} {h : Heap} {a : Addr}
theorem rd_of {u : HO} (ok : HOk P w H h) (e : Rd H a u) : ObjOk P w H h a u := e.ok ok
theorem ZcS {kvs : List (Key × V)} (ok : HOk P w H h) (e : Rd H a (.dK kvs)) : kvs.length ≤ sizeLine ∧ (a == sysModules) = false ∧ ∃ vs, KV kvs vs ∧ h.DictOf (ZaO P w) a vs :=
 show ObjOk P w H h a (.dK kvs) from rd_of ok e
theorem dk_of {kvs : List (Key × V)} (ok : HOk P w H h) (e : H a = some (.dK kvs)) : kvs.length ≤ sizeLine ∧ (a == sysModules) = false ∧ ∃ vs, KV kvs vs ∧ h.DictOf (ZaO P w) a vs := ZcS ok (.inl e)
theorem ZgS {ks : List Key} (ok : HOk P w H h) (e : H a = some (.tup (ks.map kV))) : (tupleKind (ZaO P w)).is h ks a := by
 obtain ⟨_, its, r, o, h1, h2, n, h3⟩ := (show ObjOk P w H h a (.tup (ks.map kV)) from ok a _ e)
 exact ⟨o, its.toArray, n, h1, h2, h3, by simpa using ZfD r⟩
theorem ZiZ {kvs : List (List Key × V)} (ok : HOk P w H h) (e : Rd H a (.dT kvs)) : kvs.length ≤ sizeLine ∧ (a == sysModules) = false ∧
  ∃ xs, KT H kvs xs ∧ h.DictOfH (tupleKind (ZaO P w)) a xs := by
 obtain ⟨z, y, xs, r, o, es, ep, h1, h2, h3, h4, h5⟩ := (show ObjOk P w H h a (.dT kvs) from rd_of ok e)
 refine ⟨z, y, xs, r, o, es, ep, h1, h2, h3, h4, fun x hx => ?_, h5⟩
 have all : ∀ {l : List (List Key × V)} {m : List (List Key × Addr × Value)}, KT H l m → ∀ x ∈ m, (tupleKind (ZaO P w)).is h x.1 x.2.1 := by
  intro l m q
  induction q with
  | nil => intro x hx; exact nomatch hx
  | @cons p q ps qs hq t ih =>
   intro x hx
   rcases List.mem_cons.mp hx with e | hx
   ·subst e
    exact ZgS ok (by rw [← hq.1]; exact hq.2.1)
   ·exact ih x hx
 exact all r x hx
theorem dt_of {kvs : List (List Key × V)} (ok : HOk P w H h) (e : H a = some (.dT kvs)) : kvs.length ≤ sizeLine ∧ (a == sysModules) = false ∧
  ∃ xs, KT H kvs xs ∧ h.DictOfH (tupleKind (ZaO P w)) a xs := ZiZ ok (.inl e)
end
def DGet (H : Hp) (a : Addr) (y : V) (r : Option V) : Prop :=
 (∃ kvs k, Rd H a (.dK kvs) ∧ y = kV k ∧ r = Zdn kvs k) ∨ ∃ kvs k b, Rd H a (.dT kvs) ∧ y = .ref b ∧ H b = some (.tup (k.map kV)) ∧ r = Zdn kvs k
def DPut (H : Hp) (a : Addr) (y v : V) (H' : Hp) : Prop :=
 (∃ kvs k, H a = some (.dK kvs) ∧ y = kV k ∧ kvs.length < sizeLine ∧ H' = upd H a (.dK (Zbr kvs k v))) ∨
 ∃ kvs k b, H a = some (.dT kvs) ∧ y = .ref b ∧ H b = some (.tup (k.map kV)) ∧ kvs.length < sizeLine ∧ H' = upd H a (.dT (Zbr kvs k v))
theorem DGet.k {H : Hp} {a : Addr} {kvs : List (Key × V)} {k : Key} (e : H a = some (.dK kvs)) : DGet H a (kV k) (Zdn kvs k) := .inl ⟨kvs, k, .inl e, rfl, rfl⟩
theorem DGet.t {H : Hp} {a b : Addr} {kvs : List (List Key × V)} {k : List Key} (e : H a = some (.dT kvs)) (eb : H b = some (.tup (k.map kV))) : DGet H a (.ref b) (Zdn kvs k) := .inr ⟨kvs, k, b, .inl e, rfl, eb, rfl⟩
theorem DPut.k {H : Hp} {a : Addr} {kvs : List (Key × V)} {k : Key} {v : V} (e : H a = some (.dK kvs)) (hl : kvs.length < sizeLine) : DPut H a (kV k) v (upd H a (.dK (Zbr kvs k v))) := .inl ⟨kvs, k, e, rfl, hl, rfl⟩
theorem DPut.t {H : Hp} {a b : Addr} {kvs : List (List Key × V)} {k : List Key} {v : V} (e : H a = some (.dT kvs)) (eb : H b = some (.tup (k.map kV))) (hl : kvs.length < sizeLine) :
  DPut H a (.ref b) v (upd H a (.dT (Zbr kvs k v))) := .inr ⟨kvs, k, b, e, rfl, eb, hl, rfl⟩
section
variable {X : Cx} {pins : List (Addr × Obj)} {σ : St} {H : Hp} {s : Shared} {a : Addr} {y v : V} {u r : Value} {o : Option V} {A : Around} {E : Value → Shared → Prop}
theorem Inv.big (I : Inv X pins σ H s) : sysModules < s.heap.objs.size := by
 have h : mainGlobals < s.heap.objs.size := (I.mod.glob.keeps I.bk).lt
 exact Nat.lt_trans (by decide) h
theorem ZiP {Q : Value → Shared → Prop} (hu : A.units + 1 < cLine) (I : Inv X pins σ H s) (g : DGet H a y (some v)) (ry : RelV y u) (h : ∀ w' s', Inv X pins σ H s' → RelV v w' → Q w' s') :
  wpAny (model X.prog X.w) A (getItem (.ref a) u) Q E s := by
 rcases g with ⟨kvs, k, e, ey, l⟩ | ⟨kvs, k, b, e, ey, eb, l⟩
 ·subst ey
  obtain ⟨z, hd, vs, rel, dd⟩ := ZcS I.hok e
  obtain ⟨w', hw, rw'⟩ := RelO.some_of (v := v) (o := valueAt vs k) (by rw [l]; exact rel.val k)
  exact wpAny_getItem_of (ZkX ry) dd.mapOf hw (h w' _ (I.tok _) rw')
 ·subst ey
  cases (show u = Value.ref b from ry)
  obtain ⟨z, hd, xs, rel, dd⟩ := ZiZ I.hok e
  obtain ⟨w', hw, rw'⟩ := RelO.some_of (v := v) (o := (atKey xs k).map (·.2)) (by rw [l]; exact rel.val k)
  obtain ⟨p, hp, hp2⟩ := Option.map_eq_some_iff.mp hw
  refine wpAny_getItem_heap (tupleKind_room_in1 hu) (ZgS I.hok eb) dd hp ?_
  rw [hp2]
  exact h w' _ (I.tok _) rw'
theorem d_notIn {Q : Value → Shared → Prop} (hu : A.units + 1 < cLine) (I : Inv X pins σ H s) (g : DGet H a y o) (ry : RelV y u) (h : ∀ s', Inv X pins σ H s' → Q (.bool (!o.isSome)) s') :
  wpAny (model X.prog X.w) A (compareOp .NotIn u (.ref a)) Q E s := by
 rcases g with ⟨kvs, k, e, ey, l⟩ | ⟨kvs, k, b, e, ey, eb, l⟩
 ·subst ey
  obtain ⟨z, hd, vs, rel, dd⟩ := ZcS I.hok e
  refine wpAny_notIn_of (ZkX ry) hd dd.mapOf ?_
  rw [← (rel.val k).isSome_eq, ← l]
  exact h _ (I.tok _)
 ·subst ey
  cases (show u = Value.ref b from ry)
  obtain ⟨z, hd, xs, rel, dd⟩ := ZiZ I.hok e
  refine wpAny_notIn_heap (tupleKind_room_in1 hu) (ZgS I.hok eb) hd dd ?_
  have q := (rel.val k).isSome_eq
  rw [Option.isSome_map] at q
  rw [← q, ← l]
  exact h _ (I.tok _)
theorem Zii {h' : Heap} {t' : Nat} {ob : HO} (I : Inv X pins σ H s) (mu : Mut (H a)) (hs : Heap.SameBut a s.heap h') (he : ∃ q, h'.get? a = some q) (new : ObjOk X.prog X.w (upd H a ob) h' a ob) :
  Inv X pins σ (upd H a ob) { s with heap := h', toks := t' } :=
 I.write (x := a) (e := a) mu (.inl rfl) (fun b q hb z => (hs.2 b hb).trans z) he new
theorem dk_new {P : Program} {w : World} {H' : Hp} {h' : Heap} {kvs : List (Key × V)} {vs : List (Key × Value)} (z : kvs.length ≤ sizeLine) (hd : (a == sysModules) = false) (rel : KV kvs vs) (dd : h'.DictOf (ZaO P w) a vs) :
  ObjOk P w H' h' a (.dK kvs) := ⟨z, hd, vs, rel, dd⟩
theorem Ziw {H' : Hp} {Q : Unit → Shared → Prop} (hu : A.units + 1 < cLine) (I : Inv X pins σ H s) (g : DPut H a y v H') (ry : RelV y u) (rv : RelV v r) (h : ∀ s', Inv X pins σ H' s' → Q () s') :
  wpAny (model X.prog X.w) A (setItem (.ref a) u r) Q E s := by
 rcases g with ⟨kvs, k, e, ey, l, eH⟩ | ⟨kvs, k, b, e, ey, eb, l, eH⟩
 ·subst ey eH
  obtain ⟨z, hd, vs, rel, dd⟩ := dk_of I.hok e
  have hz : vs.length ≤ sizeLine := by rw [← rel.length]; exact z
  have hl : (Zbr kvs k v).length ≤ sizeLine := by have := Zcz kvs k v; omega
  refine wpAny_setItem_pairs (hsz := hz) (ZkX ry) dd fun h' dd' hs => h _ ?_
  have he : ∃ q, h'.get? a = some q := let ⟨q, _, _, hq, _⟩ := dd'; ⟨q, hq⟩
  exact Zii I (by rw [e]; exact True.intro) hs he (dk_new hl hd (rel.put k rv) dd')
 ·subst ey eH
  cases (show u = Value.ref b from ry)
  obtain ⟨z, hd, xs, rel, dd⟩ := dt_of I.hok e
  have hz : xs.length ≤ sizeLine := by rw [← Paired.length rel]; exact z
  have hl : (Zbr kvs k v).length ≤ sizeLine := by have := Zcz kvs k v; omega
  refine wpAny_setItem_heap (hsz := hz) (tupleKind_room_in1 hu) (ZgS I.hok eb) dd fun h' dd' hs => h _ ?_
  obtain ⟨q, es, ep, hq, h2, h3, h4, _, h5⟩ := dd'
  refine Zii I (by rw [e]; exact True.intro) hs ⟨q, hq⟩ ⟨hl, hd, _, (rel.put k eb rv).keeps fun c ys ec => ?_, q, es, ep, hq, h2, h3, h4, h5⟩
  rw [Zae (ZbI ec e (fun z => nomatch z))]
  exact ec
end
section
variable {X : Cx} {pins : List (Addr × Obj)} {σ : St} {H : Hp} {s : Shared} {a : Addr} {kvs : List (Key × V)} {k : Key} {u : Value} {A : Around} {E : Value → Shared → Prop}
theorem d_len {Q : Value → Shared → Prop} (I : Inv X pins σ H s) (e : Rd H a (.dK kvs)) (h : ∀ t s', Inv X pins σ H s' → Q (.int kvs.length t) s') : wpAny (model X.prog X.w) A (call (.builtin "len") [.ref a]) Q E s := by
 obtain ⟨z, hd, vs, rel, dd⟩ := ZcS I.hok e
 refine call_len_dict hd dd (by rw [← rel.length]; rw [sizeLine_eq] at z; omega) ?_
 rw [← rel.length]
 exact h _ _ (I.tok _)
end
def NoSl (i : Expr) : Prop := ∀ ov iv, subscripted i false ov iv = operate [ov, iv] (getItem ov iv)
theorem subD_of {prog : Program} {w : World} {A : Around} {E : Value → Shared → Prop} {s : Shared} {env : Env} {value slice : Expr} {pos : Pos} {T id : String} {Q : Value → Shared → Prop}
  (hl : typeLookup (.type T) "__getitem__" = pure (some (.builtin id))) (hs : NoSl slice)
  (h : wpAny (model prog w) A (eval value env) (fun o s₁ => wpAny (model prog w) A (eval slice env) (fun i s₂ => s₂.TypeIs o T ∧ wpAny (model prog w) A (getItem o i) Q E s₂) E s₁) E s) :
  wpAny (model prog w) A (eval (.Subscript value slice pos) env) Q E s := by
 refine Subscript_ (wpAny_mono h (fun o s₁ h₁ => wpAny_mono h₁ (fun i s₂ h₂ => ?_) fun _ _ x => x) fun _ _ x => x)
 obtain ⟨hT, h₂⟩ := h₂
 unfold subscriptTail
 refine wpAny_bind ?_
 rw [getitemInPython_of_ne hT.not_modules]
 refine wpAny_bind (wpAny_specialOf hT hl ?_)
 have fin : wpAny (model prog w) A (subscripted slice false o i) (fun r s₃ => wpAny (model prog w) A (letTemporaryGo value o r >>= fun _ => pure r) Q E s₃) E s₂ := by
  rw [hs o i]
  exact wpAny_operating (wpAny_mono h₂ (fun r s₃ h₃ => wpAny_bind (wpAny_letTemporaryGo (wpAny_pure h₃))) fun _ _ x => x)
 first
  | exact wpAny_pure (wpAny_bind fin)
  | exact wpAny_bind (wpAny_pure (wpAny_bind fin))
  | exact wpAny_bind fin
theorem Zgv {X : Cx} {pins : List (Addr × Obj)} {σ : St} {H : Hp} {s : Shared} {a : Addr} {y : V} {o : Option V} (I : Inv X pins σ H s) (g : DGet H a y o) : s.TypeIs (.ref a) "dict" := by
 rcases g with ⟨kvs, k, e, _, _⟩ | ⟨kvs, k, b, e, _, _, _⟩
 ·obtain ⟨_, _, vs, _, dd⟩ := ZcS I.hok e
  exact dd.typeIs
 ·obtain ⟨_, _, xs, _, dd⟩ := ZiZ I.hok e
  exact dd.typeIs
section
variable {X : Cx} {o i e value : Expr} {pos pos' tpos : Pos} {td ty tv : TE}
end
theorem ZkJ {P : Program} {w : World} {H : Hp} (h : Heap) (hb : sysModules < h.objs.size) : ObjOk P w H (h.push { cls := .type "dict", data := .dict #[] }) h.objs.size (.dK []) :=
 ⟨Nat.zero_le _, beq_eq_false_iff_ne.mpr (Ne.symm (Nat.ne_of_lt hb)), [], .nil, Heap.DictOf.new h⟩
def tDNewK : TE := fun _ H Q => ∀ p, H p = none → Q (.ref p) (upd H p (.dK []))
section
variable {X : Cx} {pos : Pos}
theorem ZlK : PE X (.Dict [] [] pos) tDNewK := fun pins s σ H Q I h =>
 wpAny_Dict_empty ⟨.ref s.heap.objs.size, _, I.laid (a := s.heap.objs.size) (o := .dK []) (t' := s.toks) (fun _ _ q => Heap.get?_push_of_some _ q) (Nat.le_refl _) (ZkJ s.heap I.big), rfl, h _ (I.hok.fresh (Nat.le_refl _))⟩
end
structure M1 (X : Cx) (o : Expr) (m : Str) (apos : Pos) (e : Expr) (cpos : Pos) : Prop where
 base : attributeBase o m X.env (eval o X.env) = eval o X.env
 few : ((backTo cpos (starEach [e] X.env)).all (fun x => !x.1) && (backToKw cpos (keywordEach [] X.env)).all (fun x => x.1.isSome)
  && decide (([e] : List Expr).length + ([] : List Keyword).length + (if ([] : List Keyword).isEmpty then 0 else 1) < 30)) = true
 line : (apos.endLine == cpos.line) = true
 trees : backTo cpos (starEach [e] X.env) = [(false, eval e X.env)]
structure M2 (X : Cx) (o : Expr) (m : Str) (apos : Pos) (e f : Expr) (cpos : Pos) : Prop where
 base : attributeBase o m X.env (eval o X.env) = eval o X.env
 few : ((backTo cpos (starEach [e, f] X.env)).all (fun x => !x.1) && (backToKw cpos (keywordEach [] X.env)).all (fun x => x.1.isSome)
  && decide (([e, f] : List Expr).length + ([] : List Keyword).length + (if ([] : List Keyword).isEmpty then 0 else 1) < 30)) = true
 line : (apos.endLine == cpos.line) = true
 trees : backTo cpos (starEach [e, f] X.env) = [(false, eval e X.env), (false, eval f X.env)]
def IsD (H : Hp) (a : Addr) : Prop := (∃ kvs, Rd H a (.dK kvs)) ∨ ∃ kvs, Rd H a (.dT kvs)
theorem isD_at {X : Cx} {pins : List (Addr × Obj)} {σ : St} {H : Hp} {s : Shared} {a : Addr} (I : Inv X pins σ H s) (d : IsD H a) :
  s.TypeIs (.ref a) "dict" ∧ (∀ b, Value.ref a = .ref b → ∃ ob, s.heap.get? b = some ob ∧ ob.dict = none) ∧ (a == sysModules) = false := by
 rcases d with ⟨kvs, e⟩ | ⟨kvs, e⟩
 ·obtain ⟨_, hd, vs, _, dd⟩ := ZcS I.hok e
  refine ⟨dd.typeIs, fun b q => ?_, hd⟩
  cases q
  obtain ⟨ob, _, _, h1, h2, _⟩ := dd
  exact ⟨ob, h1, h2.2.1⟩
 ·obtain ⟨_, hd, xs, _, dd⟩ := ZiZ I.hok e
  refine ⟨dd.typeIs, fun b q => ?_, hd⟩
  cases q
  obtain ⟨ob, _, _, h1, h2, _⟩ := dd
  exact ⟨ob, h1, h2.2.1⟩
section
variable {X : Cx} {pins : List (Addr × Obj)} {σ : St} {H : Hp} {s : Shared} {a : Addr} {y d : V} {u r : Value} {o : Option V} {A : Around} {E : Value → Shared → Prop}
end
def tDGet2 (td ty tx : TE) : TE := fun σ H Q => td σ H fun x H1 => ∃ a, x = .ref a ∧ IsD H1 a ∧ ty σ H1 fun y H2 => tx σ H2 fun z H3 => ∃ o, DGet H3 a y o ∧ Q (o.getD z) H3
section
variable {X : Cx} {o e f : Expr} {apos cpos : Pos} {td ty tx : TE}
end
section
variable {X : Cx} {pins : List (Addr × Obj)} {σ : St} {H : Hp} {s : Shared} {a : Addr} {kvs : List (Key × V)} {A : Around} {E : Value → Shared → Prop}
theorem Zha {Q : Value → Shared → Prop} (I : Inv X pins σ H s) (e : Rd H a (.dK kvs)) (h : ∀ p s', H p = none → Inv X pins σ (upd H p (.dK kvs)) s' → Q (.ref p) s') : wpAny (model X.prog X.w) A (call (.type "dict") [.ref a]) Q E s := by
 obtain ⟨z, hd, vs, rel, dd⟩ := ZcS I.hok e
 refine kt_call_dict hd dd (by rw [← rel.length]; exact z) fun h' dd' hs => ?_
 refine h _ _ (I.hok.fresh (Nat.le_refl _)) (I.laid (a := s.heap.objs.size) (o := .dK kvs) (t' := s.toks) (fun b q hq => ?_) (Nat.le_refl _) (dk_new z (beq_eq_false_iff_ne.mpr (Ne.symm (Nat.ne_of_lt I.big))) rel dd'))
 exact (hs.2 b (Nat.ne_of_lt (Heap.lt_size hq))).trans (Heap.get?_push_of_some _ hq)
end
section
variable {X : Cx} {pins : List (Addr × Obj)} {σ : St} {H : Hp} {s : Shared} {a : Addr} {y : V} {u : Value} {A : Around} {E : Value → Shared → Prop}
end
end L2
namespace My
theorem ZgI {a b : Int} : Int.gcd b (a % b) = Int.gcd a b := by
 rw [Int.emod_def, Int.gcd_comm a b]
 exact Int.gcd_sub_mul_left_right b a (a / b)
theorem Zd4 {a b : Int} (hb : 0 < b) : (a % b).toNat < b.toNat := by
 have h1 := Int.emod_nonneg a (Int.ne_of_gt hb)
 have h2 := Int.emod_lt_of_pos a hb
 omega
theorem Zjz (i : Int) : (if i < 0 then -i else i) = (i.natAbs : Int) := by
 split <;> omega
theorem ZiX (a b : Int) : Int.gcd (a.natAbs : Int) (b.natAbs : Int) = Int.gcd a b := by
 simp [Int.gcd]
def ZbM (t b : Int) : Int := if b < 0 then -(Int.gcd t b : Int) else (Int.gcd t b : Int)
theorem ZfP {t b : Int} (hb : b ≠ 0) : ZbM t b ≠ 0 := by
 have h := Int.gcd_pos_of_ne_zero_right t hb
 unfold ZbM
 split <;> omega
theorem Zbv (t b : Int) : ZbM t b ∣ t := by
 unfold ZbM
 split
 ·exact Int.neg_dvd.mpr (Int.gcd_dvd_left t b)
 ·exact Int.gcd_dvd_left t b
theorem Za5 (t b : Int) : ZbM t b ∣ b := by
 unfold ZbM
 split
 ·exact Int.neg_dvd.mpr (Int.gcd_dvd_right t b)
 ·exact Int.gcd_dvd_right t b
theorem ZgZ (t b : Int) : (ZbM t b).natAbs = Int.gcd t b := by
 unfold ZbM
 split <;> simp
theorem Zb4 {a d : Int} (h : d ∣ a) : a.fdiv d = a / d := by
 rw [Int.fdiv_eq_ediv_of_dvd h]
theorem Zkj {t b : Int} (hb : b ≠ 0) : 0 < b / ZbM t b := by
 have hg := Int.gcd_pos_of_ne_zero_right t hb
 obtain ⟨k, hk⟩ := Za5 t b
 have e : b / ZbM t b = k := Int.ediv_eq_of_eq_mul_right (ZfP hb) hk
 rw [e]
 unfold ZbM at hk
 generalize hG : (Int.gcd t b : Int) = g at hk
 have hg' : 0 < g := by omega
 by_cases h : 0 < k
 ·exact h
 ·exfalso
  have h2 : 0 ≤ g * (-k) := Int.mul_nonneg (by omega) (by omega)
  have h3 : g * (-k) = -(g * k) := Int.mul_neg g k
  split at hk
  ·have h4 : -g * k = -(g * k) := Int.neg_mul g k
   omega
  ·omega
theorem scop {t b : Int} (hb : b ≠ 0) : Int.gcd (t / ZbM t b) (b / ZbM t b) = 1 := by
 rw [Int.gcd_ediv (Zbv t b) (Za5 t b), ZgZ]
 exact Nat.div_self (Int.gcd_pos_of_ne_zero_right t hb)
theorem ZbJ {t b : Int} (hb : b ≠ 0) : t / ZbM t b = (Rat.divInt t b).num ∧ b / ZbM t b = ((Rat.divInt t b).den : Int) := by
 have hp := Zkj (t := t) hb
 have hc := scop (t := t) hb
 have hn := ZfP (t := t) hb
 have e1 : t = ZbM t b * (t / ZbM t b) := (Int.mul_ediv_cancel' (Zbv t b)).symm
 have e2 : b = ZbM t b * (b / ZbM t b) := (Int.mul_ediv_cancel' (Za5 t b)).symm
 have hden : (b / ZbM t b).toNat ≠ 0 := by omega
 have hcop : (t / ZbM t b).natAbs.Coprime (b / ZbM t b).toNat := by
  have : (b / ZbM t b).natAbs = (b / ZbM t b).toNat := by omega
  rw [← this]; exact hc
 have key : Rat.divInt t b = ⟨t / ZbM t b, (b / ZbM t b).toNat, hden, hcop⟩ := by
  have : Rat.divInt (t / ZbM t b) (((b / ZbM t b).toNat : Nat) : Int) = ⟨t / ZbM t b, (b / ZbM t b).toNat, hden, hcop⟩ := by
   rw [Rat.divInt_ofNat]
   exact Rat.mkRat_self ⟨t / ZbM t b, (b / ZbM t b).toNat, hden, hcop⟩
  rw [← this]
  rw [Rat.divInt_eq_divInt_iff hb (by omega)]
  have e3 : (((b / ZbM t b).toNat : Nat) : Int) = b / ZbM t b := by omega
  rw [e3]
  conv => lhs; rw [e1]
  conv => rhs; rw [e2]
  grind
 constructor
 ·rw [key]
 ·rw [key]; show b / ZbM t b = (((b / ZbM t b).toNat : Nat) : Int); omega
theorem Zbe {x y : Int} {a b : Nat} (hx : x.natAbs < 2 ^ a) (hy : y.natAbs < 2 ^ b) : (x * y).natAbs < 2 ^ (a + b) := by
 rw [Int.natAbs_mul, Nat.pow_add]
 exact Nat.mul_lt_mul'' hx hy
theorem ZaN {a c n : Nat} (h : n < 2 ^ a) (hac : a ≤ c) : n < 2 ^ c := Nat.lt_of_lt_of_le h (Nat.pow_le_pow_right (by decide) hac)
theorem ZhS {x y : Int} {a b c : Nat} (hx : x.natAbs < 2 ^ a) (hy : y.natAbs < 2 ^ b) (ha : a ≤ c) (hb : b ≤ c) : (x + y).natAbs < 2 ^ (c + 1) := by
 have h1 := ZaN hx ha
 have h2 := ZaN hy hb
 rw [Nat.pow_succ]
 omega
theorem Ze4 {t b : Int} (hb : b ≠ 0) : (Rat.divInt t b).num.natAbs ≤ t.natAbs := by
 rw [← (ZbJ hb).1]
 exact Int.natAbs_ediv_le_natAbs _ _
theorem ZeV {t b : Int} (hb : b ≠ 0) : (Rat.divInt t b).den ≤ b.natAbs := by
 have h : ((Rat.divInt t b).den : Int).natAbs ≤ b.natAbs := by
  rw [← (ZbJ (t := t) hb).2]
  exact Int.natAbs_ediv_le_natAbs _ _
 simpa using h
theorem ZbW {n k : Nat} (h : n < 2 ^ k) (hk : 0 < k) : n.log2 < k := by
 by_cases h0 : n = 0
 ·rw [h0]; simpa using hk
 ·exact (Nat.log2_lt h0).mpr h
theorem Zeq {t b : Int} (hb : b ≠ 0) : Int.gcd t b ≤ b.natAbs := Nat.le_of_dvd (by omega) (Nat.gcd_dvd_right _ _)
def SzQ (n : Nat) (q : Rat) : Prop := q.num.natAbs < 2 ^ n ∧ q.den < 2 ^ n
theorem SzQ.mono {n m : Nat} {q : Rat} (h : SzQ n q) (hm : n ≤ m) : SzQ m q := ⟨ZaN h.1 hm, ZaN h.2 hm⟩
theorem SzQ.of {n : Nat} {t b : Int} (hb : b ≠ 0) (ht : t.natAbs < 2 ^ n) (hb2 : b.natAbs < 2 ^ n) : SzQ n (Rat.divInt t b) :=
 ⟨Nat.lt_of_le_of_lt (Ze4 hb) ht, Nat.lt_of_le_of_lt (ZeV hb) hb2⟩
theorem Zct (q : Rat) : (q.den : Int) ≠ 0 := by have := q.den_pos; omega
theorem Zet (p q : Rat) : p + q = Rat.divInt (p.num * q.den + q.num * p.den) (p.den * q.den) := by
 conv => lhs; rw [← Rat.num_divInt_den p, ← Rat.num_divInt_den q]
 exact Rat.divInt_add_divInt _ _ (Zct p) (Zct q)
theorem Zey (p q : Rat) : (p.den : Int) * q.den ≠ 0 := Int.mul_ne_zero (Zct p) (Zct q)
end My
set_option Elab.async false
set_option maxRecDepth 100000
namespace My
open PySem PySem.Spec L2
open PyProof.Rows hiding St
def Zao : Expr → Bool
 | .Starred .. => false
 | _ => true
theorem Zak {e : Expr} {es : List Expr} {env : Env} (h : Zao e = true) : starEach (e :: es) env = (false, eval e env) :: starEach es env := by
 cases e <;> first | rfl | cases h
theorem ZdE {env : Env} {pos : Pos} : ∀ {es : List Expr}, es.all Zao = true → (backTo pos (starEach es env)).any (·.1) = false
 | [], _ => rfl
 | e :: es, h => by
  rw [List.all_cons, Bool.and_eq_true] at h
  rw [Zak h.1]
  have := ZdE (env := env) (pos := pos) h.2
  unfold backTo at this ⊢
  simpa using this
section
variable {X : Cx} {e : Expr} {es : List Expr} {te : TE} {t : TA} {pos p : Pos} {x : Str} {id T : String} {r : List V → Hp → VK → Prop}
theorem pa_c (ha : PE X e te) (hr : PA X es t) (hp : Zao e = true := by rfl) : PA X (e :: es) (ZhL te t) := ZjH ha hr (Zak hp)
theorem Za8 {e : Expr} {es : List Expr} (h : (e :: es).all Zao = true) : Zao e = true ∧ es.all Zao = true := by
 rw [List.all_cons, Bool.and_eq_true] at h
 exact h
theorem Zls (hc : CallR X (.builtin id) r) (hg : Gl X x) (hm : X.mg x = none) (hv : bootBuiltins x = some (.builtin id)) (ha : PA X (e :: es) t) (hp : (e :: es).all Zao = true := by rfl) (hn : x ≠ "__name__" := by decide) (hdb : (x == ("__debug__" : Str)) = false := by decide) :
  PE X (.Call (.Name x p) (e :: es) [] pos) (tCB r t) := Zb6 hc hg hm hv ha hn hdb (Zak (Za8 hp).1) (ZdE (Za8 hp).2)
theorem pe_cTy (hc : CallR X (.type T) r) (hg : Gl X x) (hm : X.mg x = none) (hv : bootBuiltins x = some (.type T)) (ha : PA X (e :: es) t) (hp : (e :: es).all Zao = true := by rfl) (hn : x ≠ "__name__" := by decide) (hdb : (x == ("__debug__" : Str)) = false := by decide) :
  PE X (.Call (.Name x p) (e :: es) [] pos) (tCB r t) := Zch hc hg hm hv ha hn hdb (Zak (Za8 hp).1) (ZdE (Za8 hp).2)
end
structure Fn (P : Program) (w : World) (K : PySem.W.Frag) (mg : Str → Option Value) (base : Heap) (CX : CXT) (k : Nat) (x : Str) (ps : List Str) (sp : Sp) : Prop where
 ex : ∃ (f : Addr) (fd : FuncData), FnOk P w K mg base CX k f fd ps sp ∧ Binds K fd ps [] ∧ PySem.W.keepIn K (.ref f) = true ∧ mg x = some (.ref f)
section
variable {X : Cx} {CX : CXT} {j k : Nat} {x : Str} {ps : List Str} {sp : Sp} {p pos : Pos} {e : Expr} {es : List Expr} {t : TA}
theorem pe_fn (F : Fn X.prog X.w X.K X.mg X.base CX0 j x ps sp) (hr : Room k X.A) (hj : j ≤ k) (hg : Gl X x) (ha : PA X (e :: es) t) (hp : (e :: es).all Zao = true := by rfl) (hdb : (x == ("__debug__" : Str)) = false := by decide) :
  PE X (.Call (.Name x p) (e :: es) [] pos) (Zf3 sp [] E0 t) := by
 obtain ⟨f, fd, G, b, kp, m⟩ := F.ex
 exact ZiI G (hr.mono hj) hg m kp b .nil Zia ha hdb (Zak (Za8 hp).1) (ZdE (Za8 hp).2)
end
section
variable {X : Cx}
theorem ZkM : OpR X (binaryOp .FloorDiv) (rI (fun _ j => j ≠ 0 ∧ j.natAbs.log2 < 9000) fun i j => .int (i.fdiv j)) :=
 opI fun _ _ _ _ _ _ _ hc q => floordiv_int hc.1 q (.inl (PyProof.noPylong_of_log2 hc.2))
theorem ZkA : OpR X (binaryOp .FloorDiv) (rI (fun _ j => 0 < j ∧ j.natAbs.log2 < 9000) fun i j => .int (i / j)) :=
 opI fun i j _ _ _ _ _ hc q => floordiv_int (Int.ne_of_gt hc.1) (by rw [Int.fdiv_eq_ediv_of_nonneg i (Int.le_of_lt hc.1)]; exact q) (.inl (PyProof.noPylong_of_log2 hc.2))
theorem op_mulL : OpR X (binaryOp .Mult) (rI IntMulOk fun i j => .int (i * j)) := opI fun _ _ _ _ _ _ _ hc q => mul_int q hc
end
def ZcF (H : Hp) : V → Option String
 | .non => some "NoneType"
 | .bl _ => some "bool"
 | .int _ => some "int"
 | .str _ => some "str"
 | .ref a => match H a with
  | some (.lst _) => some "list"
  | some (.tup _) => some "tuple"
  | some (.dK _) => some "dict"
  | _ => none
 | _ => none
def kinds : List String := ["NoneType", "bool", "int", "str", "list", "tuple", "dict"]
def Zk0 : List String := ["bool", "int", "str", "list", "tuple", "dict"]
def isA (t n : String) : Bool := t == n || (t == "bool" && n == "int")
theorem kind_bl (H : Hp) (x : Bool) : ZcF H (.bl x) = some "bool" := rfl
theorem ZlP (H : Hp) (i : Int) : ZcF H (.int i) = some "int" := rfl
theorem ZgC {H : Hp} {a : Addr} {xs : List V} (h : H a = some (.tup xs)) : ZcF H (.ref a) = some "tuple" := by unfold ZcF; dsimp only; rw [h]
theorem Zlc {H : Hp} {a : Addr} {xs : List V} (h : H a = some (.lst xs)) : ZcF H (.ref a) = some "list" := by unfold ZcF; dsimp only; rw [h]
theorem ask_int : ("int" ∈ Zk0) = True := eq_true (by decide)
theorem Zkv : ("bool" ∈ Zk0) = True := eq_true (by decide)
theorem ZjW : ("tuple" ∈ Zk0) = True := eq_true (by decide)
theorem Zln : ("list" ∈ Zk0) = True := eq_true (by decide)
theorem ask_str : ("str" ∈ Zk0) = True := eq_true (by decide)
theorem isa_bb : isA "bool" "bool" = true := by decide
theorem isa_bi : isA "bool" "int" = true := by decide
theorem isa_ii : isA "int" "int" = true := by decide
theorem isa_ib : isA "int" "bool" = false := by decide
theorem isa_tt : isA "tuple" "tuple" = true := by decide
theorem isa_ll : isA "list" "list" = true := by decide
theorem ZlU {K : PySem.W.Frag} {H : Hp} {x : V} {t : String} (e : ZcF H x = some t) : TyOf K H x (.type t) ∧ t ∈ kinds := by
 unfold ZcF at e
 split at e
 ·cases e; exact ⟨.non, by decide⟩
 ·cases e; exact ⟨.bl _, by decide⟩
 ·cases e; exact ⟨.int _, by decide⟩
 ·cases e; exact ⟨.str _, by decide⟩
 ·split at e
  ·cases e; exact ⟨.lst (by assumption), by decide⟩
  ·cases e; exact ⟨.tup (by assumption), by decide⟩
  ·cases e; exact ⟨.dK (by assumption), by decide⟩
  ·cases e
 ·cases e
theorem ZiB (K : PySem.W.Frag) : ∀ t ∈ kinds, ∀ n ∈ Zk0, PySem.W.kitOne K (.type t) (.type n) = some (isA t n) := by
 intro t ht n hn
 simp only [kinds, Zk0, List.mem_cons, List.not_mem_nil, or_false] at ht hn
 rcases ht with rfl | rfl | rfl | rfl | rfl | rfl | rfl <;> rcases hn with rfl | rfl | rfl | rfl | rfl | rfl <;> rfl
section
variable {X : Cx}
theorem Zi3 : CallR X (.builtin "isinstance") (fun xs H Q => ∃ x n t, xs = [x, .ty n] ∧ ZcF H x = some t ∧ n ∈ Zk0 ∧ Q (.bl (isA t n)) H) := by
 intro pins s σ H xs us Q I r h
 obtain ⟨x, n, t, rfl, e, hn, q⟩ := h
 obtain ⟨u, v, rfl, ru, rv⟩ := ZjN r
 cases (show v = Value.type n from rv)
 obtain ⟨ty, ht⟩ := ZlU (K := X.K) e
 exact ZjE I ru ty (ZiB X.K t ht n hn) fun tk => ⟨.bl (isA t n), H, I.tok tk, rfl, q⟩
theorem pe_ty {x : Str} {T : String} {pos : Pos} (hg : Gl X x) (hm : X.mg x = none) (hv : bootBuiltins x = some (.type T)) (hn : x ≠ "__name__" := by decide) (hd : (x == ("__debug__" : Str)) = false := by decide) : PE X (.Name x pos) (tC (.ty T)) :=
 pe_bltn hg hm hv rfl hn hd
end
section
variable {X : Cx} {e : Expr} {es : List Expr} {te : TE} {t : TA} {pos : Pos}
theorem ZaK {H : Hp} {p : Addr} (h : H p = none) (o : HO) : Same H (upd H p o) := fun b u q => by rw [Zae (Zaj q h)]; exact q
def Zkg (t : TA) : TE := fun σ H Q => t σ H fun xs H1 => xs.length ≤ 1000 ∧ ∀ p H2, H1 p = none → Same H1 H2 → H2 p = some (.tup xs) → Q (.ref p) H2
def ZkD (t : TA) : TE := fun σ H Q => t σ H fun xs H1 => xs.length ≤ 1000 ∧ ∀ p H2, H1 p = none → Same H1 H2 → H2 p = some (.lst xs) → Q (.ref p) H2
theorem Zfn {n : Nat} (h : n ≤ 1000) : n ≤ sizeLine := Nat.le_of_lt (Zfv h)
theorem pe_tup2 {x1} (h : PA X es t) : PE X (.Tuple es x1 pos) (Zkg t) := by
 intro pins s σ H Q I hq
 refine wpAny_Tuple_spliced (thn (h pos pins s σ H _ I hq) fun us s1 ⟨xs, H1, I1, r, z, q⟩ => ⟨by rw [← r.length]; exact Zfn z, ?_⟩)
 have hf : H1 s1.heap.objs.size = none := I1.hok.fresh (Nat.le_refl _)
 refine ⟨.ref s1.heap.objs.size, upd H1 s1.heap.objs.size (.tup xs), I1.laid (t' := s1.toks) (fun b u e => Heap.get?_push_of_some _ e) (Nat.le_refl _) ?_, rfl, q _ _ hf (ZaK hf _) upd_same⟩
 exact ⟨Zfn z, us, r, ⟨_, Heap.get?_push_size _ rfl, rfl, _, rfl⟩⟩
theorem pe_lst2 (h : PA X es t) : PE X (.List es pos) (ZkD t) := by
 intro pins s σ H Q I hq
 refine wpAny_List_spliced (thn (h pos pins s σ H _ I hq) fun us s1 ⟨xs, H1, I1, r, z, q⟩ => ⟨by rw [← r.length]; exact Zfn z, ?_⟩)
 have hf : H1 s1.heap.objs.size = none := I1.hok.fresh (Nat.le_refl _)
 refine ⟨.ref s1.heap.objs.size, upd H1 s1.heap.objs.size (.lst xs), I1.laid (t' := s1.toks) (fun b u e => Heap.get?_push_of_some _ e) (Nat.le_refl _) ?_, rfl, q _ _ hf (ZaK hf _) upd_same⟩
 exact ⟨Zfn z, us, 0, r, Heap.get?_push_size _ rfl⟩
theorem ix_imp {r r' : R2} (h : IxR X r) (i : ∀ x y H Q, r' x y H Q → r x y H Q) : IxR X r' :=
 fun value slice pins s σ H x y v u Q I rx ry q hs => h value slice pins s σ H x y v u Q I rx ry (i x y H Q q) hs
def Zlb : R2 := fun x y H Q => ∃ p xs i v, x = .ref p ∧ y = .int i ∧ H p = some (.tup xs) ∧ atI xs i = some v ∧ Q v H
def rIxL2 : R2 := fun x y H Q => ∃ p xs i v, x = .ref p ∧ y = .int i ∧ H p = some (.lst xs) ∧ atI xs i = some v ∧ Q v H
theorem ix_tup2 : IxR X Zlb := ix_imp ix_tup fun _ _ _ _ ⟨p, xs, i, v, h1, h2, h3, h4, q⟩ => ⟨p, xs, i, v, h1, h2, SqT.of h3, h4, q⟩
theorem ix_lst2 : IxR X rIxL2 := ix_imp ZiT fun _ _ _ _ ⟨p, xs, i, v, h1, h2, h3, h4, q⟩ => ⟨p, xs, i, v, h1, h2, SqL.of h3, h4, q⟩
theorem Zjx : CallR X (.builtin "len") (fun xs H Q => ∃ p ys, xs = [.ref p] ∧ (H p = some (.lst ys) ∨ H p = some (.tup ys)) ∧ Q (.int ys.length) H) :=
 fun pins s σ H xs us Q I r ⟨p, ys, h1, h2, q⟩ => Zde pins s σ H xs us Q I r ⟨p, ys, h1, h2.imp SqL.of SqT.of, q⟩
def tApp (to : TE) (t : TA) : TE := fun σ H Q => to σ H fun x H1 => ∃ l zs, x = .ref l ∧ H1 l = some (.lst zs) ∧ t σ H1 fun vs H2 => ∃ y xs, vs = [y] ∧ H2 l = some (.lst xs) ∧ xs.length < 1000000 ∧ Q .non (upd H2 l (.lst (xs ++ [y])))
theorem mill {n : Nat} (h : n < 1000000) : n < sizeLine := Nat.lt_trans h (by decide)
theorem ZjG {o : Expr} {to : TE} {apos cpos : Pos} (ho : PE X o to) (ha : PA X (e :: es) t)
  (hbase : attributeBase o "append" X.env (eval o X.env) = eval o X.env := by rfl)
  (hfew : ((backTo cpos (starEach (e :: es) X.env)).all (fun x => !x.1) && (backToKw cpos (keywordEach [] X.env)).all (fun x => x.1.isSome)
   && decide ((e :: es).length + ([] : List Keyword).length + (if ([] : List Keyword).isEmpty then 0 else 1) < 30)) = true := by rfl)
  (hline : (apos.endLine == cpos.line) = true := by rfl) (hs : starEach (e :: es) X.env = (false, eval e X.env) :: starEach es X.env := by rfl) (hplain : (backTo cpos (starEach es X.env)).any (·.1) = false := by rfl) :
  PE X (.Call (.Attribute o "append" apos) (e :: es) [] cpos) (tApp to t) := by
 intro pins s σ H Q I h
 refine wpAny_Call_method_late hbase hfew hline rfl (thn (ho pins s σ H _ I h) fun v s1 ⟨x, H1, I1, r1, l, zs, e1, e2, q1⟩ => ?_)
 obtain ⟨h1, h2⟩ := ZjK (T := "list") I1 r1 (by rw [e1]; exact .inl ⟨rfl, zs, SqL.of e2⟩)
 refine ⟨"list", "list.append", PySem.F.plainAttrs_list, PySem.F.slot_list_append, PySem.F.type_list_append, h1, h2, ?_⟩
 have hA := ha cpos pins s1 σ H1 _ I1 q1
 rw [hs] at hA ⊢
 refine Calls.callWith_builtin (by show (false || (backTo cpos (starEach es X.env)).any (·.1)) = false; rw [hplain] <;> rfl) (Calls.evalArgs_plain ?_)
 exact thn hA fun us s2 ⟨vs, H2, I2, r2, y, xs, e3, e4, z, q2⟩ => Zfh pins s2 σ H2 x vs v us Q I2 r1 r2 ⟨l, xs, y, e1, e3, e4, mill z, q2⟩
theorem Zam {H H' : Hp} {p : Addr} {o : HO} (hp : H p = none) (hs : Same H H') : Same H (upd H' p o) := fun b u q => by rw [Zae (Zaj q hp)]; exact hs b u q
def ZlB (n : Nat) (t : TGs) : TG := fun v σ H Q => ∃ a xs, v = .ref a ∧ H a = some (.tup xs) ∧ xs.length = n ∧ t xs σ H Q
theorem pg_tup2 {es : List Expr} {k : Nat} {t : TGs} {n : Nat} (hc : X.calm = true) (h : PGs X es t)
  (hn : (assignEach es X.env).length = n := by rfl) (hst : (assignEach es X.env).findIdx? (·.1) = none := by rfl) : PG X (.Tuple es k pos) (ZlB n t) :=
 fun pins s σ H v u Q I r ⟨a, xs, h1, h2, h3, q⟩ => pg_tup hc h hn hst pins s σ H v u Q I r ⟨a, xs, h1, SqT.of h2, h3, q⟩
end
theorem atI0 {α : Type} (x : α) (xs : List α) : atI (x :: xs) 0 = some x := ZaE (j := 0) rfl
theorem atI1 {α : Type} (x y : α) (xs : List α) : atI (x :: y :: xs) 1 = some y := ZaE (j := 1) rfl
theorem atI2 {α : Type} (x y z : α) (xs : List α) : atI (x :: y :: z :: xs) 2 = some z := ZaE (j := 2) rfl
theorem atI3 {α : Type} (x y z u : α) (xs : List α) : atI (x :: y :: z :: u :: xs) 3 = some u := ZaE (j := 3) rfl
theorem atI_mem {α : Type} {xs : List α} {i : Int} (h0 : 0 ≤ i) (h1 : i < (xs.length : Int)) : ∃ v, atI xs i = some v ∧ v ∈ xs := by
 have hk : i.toNat < xs.length := by omega
 refine ⟨xs[i.toNat], ?_, List.getElem_mem hk⟩
 have e : i = ((i.toNat : Nat) : Int) := by omega
 conv => lhs; rw [e]
 exact ZaE (List.getElem?_eq_getElem hk)
def cellOf (ns : List Int) (k : Nat) : Int := ns.getD k (2 * (k : Int) + 1)
theorem cell_in {ns : List Int} {k : Nat} (h : k < ns.length) : atI (ns.map V.int) (k : Int) = some (.int (cellOf ns k)) := by
 refine ZaE ?_
 rw [List.getElem?_map, List.getElem?_eq_getElem h]
 simp [cellOf, List.getD, List.getElem?_eq_getElem h]
theorem ZlS {ns : List Int} {k : Nat} (h : ¬ k < ns.length) : cellOf ns k = 2 * (k : Int) + 1 := by
 unfold cellOf
 rw [List.getD, List.getElem?_eq_none (by omega)]
 rfl
def Zla (σ : St) (i : Nat) : Int := match σ[i]? with
 | some (some (.int m)) => m
 | _ => 0
theorem Ze8 {c : TT} {tb : TS} {D : Ends} {σ : St} {H : Hp} (Pv : St → Hp → Prop) (μ : St → Hp → Nat) (h0 : Pv σ H)
  (hs : ∀ σ H, Pv σ H → c σ H fun b H1 => if b = true then ∃ N : St → Hp → Prop, (∀ σ' H', N σ' H' → ∃ m', m' < μ σ H ∧ (m' = μ σ' H' ∧ Pv σ' H')) ∧ tb { D with nx := N, ct := N, bk := D.nx } σ H1 else D.nx σ H1) : ZjZ c tb D σ H := by
 refine ⟨fun m σ H => m = μ σ H ∧ Pv σ H, ⟨_, rfl, h0⟩, ?_⟩
 rintro m σ H ⟨rfl, p⟩
 exact hs σ H p
end My
namespace My
open PySem PySem.Spec L2
open PyProof.Rows hiding St
structure QE (X : Cx) (e : Expr) (t : TE) : Prop where
 h : PE X e t
structure QT (X : Cx) (e : Expr) (t : TT) : Prop where
 h : PT X e t
structure QW (X : Cx) (e : Expr) (t : TT) : Prop where
 h : PW X e t
structure QA (X : Cx) (es : List Expr) (t : TA) : Prop where
 h : PA X es t
structure QS (X : Cx) (st : Stmt) (t : TS) : Prop where
 h : PS X st t
structure QB (X : Cx) (sts : List Stmt) (t : TS) : Prop where
 h : PSs X sts t
structure QI (X : Cx) (tg it : Expr) (t : TI) : Prop where
 h : PI X tg it t
structure QG (X : Cx) (tg : Expr) (t : TG) : Prop where
 h : PG X tg t
structure QGs (X : Cx) (tgs : List Expr) (t : TGs) : Prop where
 h : PGs X tgs t
section
variable {X : Cx} {a b c e : Expr} {es rest : List Expr} {ta tb tc te : TE} {tA tB' : TT} {t : TA} {pos p : Pos} {x : Str}
theorem q_v (i : Nat) (hN : X.N[i]? = some x := by rfl) (hv : Vis X.env.scope x := by first | exact Or.inl rfl | exact Or.inr (Or.inl rfl) | exact Or.inr (Or.inr rfl)) (hd : (x == ("__debug__" : Str)) = false := by decide)
  (hcd : (x == ("__classdict__" : Str)) = false := by decide) : QE X (.Name x pos) (tVar i) := ⟨pe_var hN hv hd hcd⟩
theorem Zad {i j} : QE X (.Constant (.int i) j pos) (tC (.int i)) := ⟨pe_int⟩
theorem Zj8 {k j} : QE X (.Constant (.bool k) j pos) (tC (.bl k)) := ⟨pe_bl⟩
theorem Zfq {y j} : QE X (.Constant (.str y) j pos) (tC (.str y)) := ⟨pe_str⟩
theorem q_ty {T : String} (hg : Gl X x) (hm : X.mg x = none) (hv : bootBuiltins x = some (.type T)) (hn : x ≠ "__name__" := by decide) (hd : (x == ("__debug__" : Str)) = false := by decide) : QE X (.Name x pos) (tC (.ty T)) := ⟨pe_ty hg hm hv hn hd⟩
theorem ZbG (ha : QE X a ta) (hb : QE X b tb) : QE X (.BinOp a .Add b pos) (tOp (rI0 fun i j => .int (i + j)) ta tb) := ⟨ZdW op_add ha.h hb.h⟩
theorem Zc3 (ha : QE X a ta) (hb : QE X b tb) : QE X (.BinOp a .Sub b pos) (tOp (rI0 fun i j => .int (i - j)) ta tb) := ⟨ZdW op_sub ha.h hb.h⟩
theorem q_mul (ha : QE X a ta) (hb : QE X b tb) : QE X (.BinOp a .Mult b pos) (tOp (rI CMul fun i j => .int (i * j)) ta tb) := ⟨ZdW op_mul ha.h hb.h⟩
theorem Zbi (ha : QE X a ta) (hb : QE X b tb) : QE X (.BinOp a .Mult b pos) (tOp (rI IntMulOk fun i j => .int (i * j)) ta tb) := ⟨ZdW op_mulL ha.h hb.h⟩
theorem Za7 (ha : QE X a ta) (hb : QE X b tb) : QE X (.BinOp a .Mod b pos) (tOp (rI (fun _ j => 0 < j) fun i j => .int (i % j)) ta tb) := ⟨ZdW op_mod ha.h hb.h⟩
theorem ZbH (ha : QE X a ta) (hb : QE X b tb) : QE X (.BinOp a .FloorDiv b pos) (tOp (rI CDiv fun i j => .int (i / j)) ta tb) := ⟨ZdW op_fdiv ha.h hb.h⟩
theorem Zjw (ha : QE X a ta) (hb : QE X b tb) : QE X (.BinOp a .FloorDiv b pos) (tOp (rI (fun _ j => 0 < j ∧ j.natAbs.log2 < 9000) fun i j => .int (i / j)) ta tb) := ⟨ZdW ZkA ha.h hb.h⟩
theorem ZcZ (ha : QE X a ta) (hb : QE X b tb) : QE X (.BinOp a .FloorDiv b pos) (tOp (rI (fun _ j => j ≠ 0 ∧ j.natAbs.log2 < 9000) fun i j => .int (i.fdiv j)) ta tb) := ⟨ZdW ZkM ha.h hb.h⟩
theorem ZhT (ha : QE X a ta) (hb : QE X b tb) : QE X (.BinOp a .Pow b pos) (tOp (rI CPow fun i j => .int (i ^ j.toNat)) ta tb) := ⟨ZdW op_pow ha.h hb.h⟩
theorem q_cat (ha : QE X a ta) (hb : QE X b tb) : QE X (.BinOp a .Add b pos) (tOp rCat ta tb) := ⟨ZdW op_cat ha.h hb.h⟩
theorem q_addS (ha : QE X a ta) (hb : QE X b tb) : QE X (.BinOp a .Add b pos) (tOp (fun x y H Q => ∃ i j, x = .str i ∧ y = .str j ∧ i.length + j.length ≤ sizeLine ∧ Q (.str (i ++ j)) H) ta tb) := ⟨ZdW ZhY ha.h hb.h⟩
theorem q_neg (ha : QE X a ta) : QE X (.UnaryOp .USub a pos) (tUn (rU fun i => .int (-i)) ta) := ⟨pe_un un_neg ha.h⟩
theorem q_not (ha : QE X a ta) : QE X (.UnaryOp .Not a pos) (Zli ta) := ⟨pe_not ha.h⟩
theorem ZjY {op} (ha : QE X a ta) : QE X (.BoolOp op [a] pos) ta := ⟨pe_one ha.h⟩
theorem ZhR (ha : QE X a ta) (hb : QE X (.BoolOp .And (b :: rest) pos) tb) : QE X (.BoolOp .And (a :: b :: rest) pos) (Zlr ta tb) := ⟨pe_and ha.h hb.h⟩
theorem q_ifE (hc : QT X c tA) (ha : QE X a ta) (hb : QE X b tb) : QE X (.IfExp c a b pos) (tIf tA ta tb) := ⟨pe_ifExp hc.h ha.h hb.h⟩
theorem q_eq (ha : QE X a ta) (hb : QE X b tb) : QE X (.Compare a [.Eq] [b] pos) (tOp rEq ta tb) := ⟨Zd1 op_eq ha.h hb.h (Zca _)⟩
theorem q_lt (ha : QE X a ta) (hb : QE X b tb) : QE X (.Compare a [.Lt] [b] pos) (tOp (rI0 fun i j => .bl (decide (i < j))) ta tb) := ⟨Zd1 op_lt ha.h hb.h (Zca _)⟩
theorem q_gt (ha : QE X a ta) (hb : QE X b tb) : QE X (.Compare a [.Gt] [b] pos) (tOp (rI0 fun i j => .bl (decide (j < i))) ta tb) := ⟨Zd1 op_gt ha.h hb.h (Zca _)⟩
theorem q_ge (ha : QE X a ta) (hb : QE X b tb) : QE X (.Compare a [.GtE] [b] pos) (tOp (rI0 fun i j => .bl (decide (j ≤ i))) ta tb) := ⟨Zd1 op_ge ha.h hb.h (Zca _)⟩
theorem Zcb (ha : QE X e te) (he : ∀ whole, isTrue e X.env whole = (do let v ← whole; standAt e.pos; holding [v] (truthy v)) := by intro _; rfl) : QT X e (tB te) := ⟨pt_val ha.h he⟩
theorem Zc5 (ha : QT X a tA) : QT X (.UnaryOp .Not a pos) (tNot tA) := ⟨pt_not ha.h⟩
theorem Zfm (ha : QT X a tA) : QW X (.BoolOp .Or [a] pos) tA := ⟨pw_or1 ha.h⟩
theorem Zh4 (ha : QT X a tA) (hb : QW X (.BoolOp .Or (b :: rest) pos) tB') : QW X (.BoolOp .Or (a :: b :: rest) pos) (tOr tA tB') := ⟨pw_or ha.h hb.h⟩
theorem t_w (h : QW X e tA) : QT X e tA := ⟨h.h.pt⟩
theorem t_eq (ha : QE X a ta) (hb : QE X b tb) : QT X (.Compare a [.Eq] [b] pos) (Zdl (tOp rEq ta tb)) := ⟨Zb7 op_eq ha.h hb.h (Zca _)⟩
theorem t_ne (ha : QE X a ta) (hb : QE X b tb) : QT X (.Compare a [.NotEq] [b] pos) (Zdl (tOp rNe ta tb)) := ⟨Zb7 op_ne ha.h hb.h (Zca _)⟩
theorem t_lt (ha : QE X a ta) (hb : QE X b tb) : QT X (.Compare a [.Lt] [b] pos) (Zdl (tOp (rI0 fun i j => .bl (decide (i < j))) ta tb)) := ⟨Zb7 op_lt ha.h hb.h (Zca _)⟩
theorem t_gt (ha : QE X a ta) (hb : QE X b tb) : QT X (.Compare a [.Gt] [b] pos) (Zdl (tOp (rI0 fun i j => .bl (decide (j < i))) ta tb)) := ⟨Zb7 op_gt ha.h hb.h (Zca _)⟩
theorem t_ge (ha : QE X a ta) (hb : QE X b tb) : QT X (.Compare a [.GtE] [b] pos) (Zdl (tOp (rI0 fun i j => .bl (decide (j ≤ i))) ta tb)) := ⟨Zb7 op_ge ha.h hb.h (Zca _)⟩
theorem Zab : QA X [] tNil := ⟨pa_nil⟩
theorem a_c (ha : QE X e te) (hr : QA X es t) (hp : Zao e = true := by rfl) : QA X (e :: es) (ZhL te t) := ⟨pa_c ha.h hr.h hp⟩
theorem ZcH {x1} (h : QA X es t) : QE X (.Tuple es x1 pos) (Zkg t) := ⟨pe_tup2 h.h⟩
theorem Zdc (h : QA X es t) : QE X (.List es pos) (ZkD t) := ⟨pe_lst2 h.h⟩
theorem ZaJ (ha : QE X a ta) (hb : QE X b tb) (hs : Zec b := by intro _ _; rfl) : QE X (.Subscript a b pos) (tOp Zlb ta tb) := ⟨Zlt ix_tup2 ha.h hb.h hs⟩
theorem Zcf (ha : QE X a ta) (hb : QE X b tb) (hs : Zec b := by intro _ _; rfl) : QE X (.Subscript a b pos) (tOp rIxL2 ta tb) := ⟨Zlt ix_lst2 ha.h hb.h hs⟩
theorem q_ixS (ha : QE X a ta) (hb : QE X b tb) (hs : Zec b := by intro _ _; rfl) : QE X (.Subscript a b pos) (tOp (rIxL X.K) ta tb) := ⟨Zlt ZiT ha.h hb.h hs⟩
theorem ZbS (hg : Gl X "len") (hm : X.mg "len" = none) (ha : QA X (e :: es) t) (hp : (e :: es).all Zao = true := by rfl) :
  QE X (.Call (.Name "len" p) (e :: es) [] pos) (tCB (fun xs H Q => ∃ p ys, xs = [.ref p] ∧ (H p = some (.lst ys) ∨ H p = some (.tup ys)) ∧ Q (.int ys.length) H) t) := ⟨Zls Zjx hg hm PySem.boot_len ha.h hp⟩
theorem q_lenS (hg : Gl X "len") (hm : X.mg "len" = none) (ha : QA X (e :: es) t) (hp : (e :: es).all Zao = true := by rfl) :
  QE X (.Call (.Name "len" p) (e :: es) [] pos) (tCB (fun xs H Q => ∃ p ys, xs = [.ref p] ∧ (SqL X.K H p ys ∨ SqT X.K H p ys) ∧ Q (.int ys.length) H) t) := ⟨Zls Zde hg hm PySem.boot_len ha.h hp⟩
theorem q_abs (hg : Gl X "abs") (hm : X.mg "abs" = none) (ha : QA X (e :: es) t) (hp : (e :: es).all Zao = true := by rfl) :
  QE X (.Call (.Name "abs" p) (e :: es) [] pos) (tCB (fun xs H Q => ∃ i, xs = [.int i] ∧ Q (.int (if i < 0 then -i else i)) H) t) := ⟨Zls ZkW hg hm (by rfl) ha.h hp⟩
theorem Zdh (hg : Gl X "isinstance") (hm : X.mg "isinstance" = none) (ha : QA X (e :: es) t) (hp : (e :: es).all Zao = true := by rfl) :
  QE X (.Call (.Name "isinstance" p) (e :: es) [] pos) (tCB (fun xs H Q => ∃ x n t, xs = [x, .ty n] ∧ ZcF H x = some t ∧ n ∈ Zk0 ∧ Q (.bl (isA t n)) H) t) := ⟨Zls Zi3 hg hm (by rfl) ha.h hp⟩
theorem q_int1 (hg : Gl X "int") (hm : X.mg "int" = none) (ha : QA X (e :: es) t) (hp : (e :: es).all Zao = true := by rfl) :
  QE X (.Call (.Name "int" p) (e :: es) [] pos) (tCB (fun xs H Q => (∃ i, xs = [.int i] ∧ Q (.int i) H) ∨ ∃ k, xs = [.bl k] ∧ Q (.int (if k then 1 else 0)) H) t) := ⟨pe_cTy Zjh hg hm (by rfl) ha.h hp⟩
variable {j k : Nat} {ps : List Str} {sp : Sp}
theorem ZaY (F : Fn X.prog X.w X.K X.mg X.base CX0 j x ps sp) (hr : Room k X.A) (hj : j ≤ k) (hg : Gl X x) (ha : QA X (e :: es) t) (hp : (e :: es).all Zao = true := by rfl) (hdb : (x == ("__debug__" : Str)) = false := by decide) :
  QE X (.Call (.Name x p) (e :: es) [] pos) (Zf3 sp [] E0 t) := ⟨pe_fn F hr hj hg ha.h hp hdb⟩
theorem ZeM {o : Expr} {to : TE} {apos cpos : Pos} (ho : QE X o to) (ha : QA X [e] t) (hbase : attributeBase o "append" X.env (eval o X.env) = eval o X.env := by rfl) (hline : (apos.endLine == cpos.line) = true := by rfl) (hp : Zao e = true := by rfl) :
  QE X (.Call (.Attribute o "append" apos) [e] [] cpos) (tApp to t) :=
 ⟨ZjG ho.h ha.h hbase (by rw [Zak hp]; rfl) hline (Zak hp) rfl⟩
end
section
variable {X : Cx} {st : Stmt} {rest a b body : List Stmt} {t u tb : TS} {e c tg it : Expr} {te : TE} {tc : TT} {pos : Pos} {g : TG} {wi : TI}
theorem Zbs : QB X [] Zkp := ⟨pss_nil⟩
theorem Zac (h1 : QS X st t) (h2 : QB X rest u) : QB X (st :: rest) (tSeq t u) := ⟨pss_cons h1.h h2.h⟩
theorem Zai (h1 : QS X st t) : QB X [st] t := ⟨pss_one h1.h⟩
theorem ZbR : QS X st tNever := ⟨Zkf⟩
theorem Zay (he : QE X e te) : QS X (.Return (some e) pos) (tRet te) := ⟨ps_ret he.h⟩
theorem Zc0 (hc : QT X c tc) (ha : QB X a t) (hb : QB X b u) : QS X (.If c a b pos) (tIfS tc t u) := ⟨ps_if hc.h ha.h hb.h⟩
theorem Zbt (he : QE X e te) (hs : swapsWith e none pos.line X.env = pure false := by rfl) : QS X (.Expr e pos) (ZkC te) := ⟨ps_expr he.h hs⟩
theorem Zap {x : Str} {pos' : Pos} (i : Nat) (hN : X.N.Nodup) (he : QE X e te) (hi : X.N[i]? = some x := by rfl) (hx : Loc X.env.scope x := by first | exact Or.inl rfl | exact Or.inr rfl) (hs : swapsWith e (some (.Name x pos')) pos.line X.env = pure false := by rfl)
  (hf : X.fn x = true ∨ X.env.scope.names.lookup x = some .local := by first | exact .inl rfl | exact .inr rfl | assumption) : QS X (.Assign [.Name x pos'] e pos) (Zj9 te (Zcu i)) := ⟨ps_set hN hi hx he.h hs hf⟩
theorem s_par {x y : Str} {c d : Expr} {ta : TA} {px py pt : Pos} {kt k2 pt2} (i j : Nat) (hN : X.N.Nodup) (ha : QA X [c, d] ta) (hc : X.calm = true := by rfl) (hi : X.N[i]? = some x := by rfl) (hj : X.N[j]? = some y := by rfl) (hij : i ≠ j := by decide)
  (hx : X.env.scope.names.lookup x = some .local := by rfl) (hy : X.env.scope.names.lookup y = some .local := by rfl)
  (hw : swappedStores [.Tuple [.Name x px, .Name y py] kt pt] (.Tuple [c, d] k2 pt2) X.env = pure (some [x, y]) := by rfl)
  (hs : swapsWithSole [.Tuple [.Name x px, .Name y py] kt pt] (.Tuple [c, d] k2 pt2) pos.line X.env = pure false := by rfl) :
  QS X (.Assign [.Tuple [.Name x px, .Name y py] kt pt] (.Tuple [c, d] k2 pt2) pos) (tPar i j ta) := ⟨ps_par hc hN hi hj hij hx hy ha.h hw hs⟩
theorem s_asg (he : QE X e te) (hg : QG X tg g) (hs : swapsWithSole [tg] e pos.line X.env = pure false := by rfl) (hw : swappedStores [tg] e X.env = pure none := by rfl) (h1 : (assignEach [tg] X.env).map (·.2) = [assign tg X.env] := by rfl) : QS X (.Assign [tg] e pos) (Zj9 te g) := ⟨ps_asg he.h hg.h hs hw h1⟩
theorem Zar {x : Str} (i : Nat) (hN : X.N.Nodup) (hi : X.N[i]? = some x := by rfl) (hx : Loc X.env.scope x := by first | exact Or.inl rfl | exact Or.inr rfl) (hf : X.fn x = true ∨ X.env.scope.names.lookup x = some .local := by first | exact .inl rfl | exact .inr rfl | assumption) :
  QG X (.Name x pos) (Zcu i) := ⟨pg_name hN hi hx hf⟩
theorem Zew : QGs X [] gNil := ⟨pgs_nil⟩
theorem Zbq {es : List Expr} {v : TGs} (h1 : QG X e g) (h2 : QGs X es v) (hs : (assignEach (e :: es) X.env).map (·.2) = assign e X.env :: (assignEach es X.env).map (·.2) := by rfl) : QGs X (e :: es) (Zki g v) := ⟨ZlG h1.h h2.h hs⟩
theorem Zhh {es : List Expr} {k : Nat} {v : TGs} {n : Nat} (h : QGs X es v) (hc : X.calm = true := by rfl) (hn : (assignEach es X.env).length = n := by rfl) (hst : (assignEach es X.env).findIdx? (·.1) = none := by rfl) :
  QG X (.Tuple es k pos) (ZlB n v) := ⟨pg_tup2 hc h.h hn hst⟩
theorem ZeU (hp : PassesOwn (model X.prog X.w) X.A X.env X.xe) (hc : QT X c tc) (hb : QB X body tb) : QS X (.While c body [] pos) (ZjZ tc tb) := ⟨ZlI hp hc.h hb.h⟩
theorem ZbQ (hp : PassesOwn (model X.prog X.w) X.A X.env X.xe) (hi : QI X tg it wi) (hg : QG X tg g) (hb : QB X body tb) (hc : X.calm = true := by rfl) (hs : ∀ x, foldedSetIterable it X.env x = pure x := by intro _; rfl) :
  QS X (.For tg it body [] pos) (ZkS wi g tb) := ⟨ps_for hp hc hi.h hg.h hb.h hs⟩
theorem Zbm (hl : QE X e te) : QI X tg e (Zeh X.K te) := ⟨pi_list hl.h⟩
theorem ZdY {c : Expr} {ta : TA} {p : Pos} (hg : Gl X "range") (hm : X.mg "range" = none) (ha : QA X [c] ta) (hp : Zao c = true := by rfl) : QI X tg (.Call (.Name "range" p) [c] [] pos) (ZhC ta) := ⟨Ziu hg hm ha.h (Zak hp)⟩
theorem i_rng2 {c d : Expr} {ta : TA} {p : Pos} (hg : Gl X "range") (hm : X.mg "range" = none) (ha : QA X [c, d] ta) (hp : Zao c = true := by rfl) (hq : Zao d = true := by rfl) :
  QI X tg (.Call (.Name "range" p) [c, d] [] pos) (iRng2 ta) := ⟨Zi1 hg hm ha.h (by rw [Zak hp, Zak hq]; rfl) (Zak hq)⟩
end
theorem okQ {P : Program} {w : World} {K : PySem.W.Frag} {mg : Str → Option Value} {base : Heap} {x qual : Str} {st : Stmt} {f : Addr} {fd : FuncData} {N ps : List Str} {k : Nat} {sp : Sp} (F : Fun K x qual st f fd) (S : FnScope N ps (Zaa st)) (len : ∀ vs H Q E, sp vs H Q E → vs.length = ps.length)
  (hbody : ∀ (cdv : Value) (A : Around) (outer : List Env) (s : Shared) (H : Hp) (vs : List V) (Q : VK) (E : XK), Room k (A.deeper (envOfC qual (Zaa st) s.heap.objs.size f cdv)) → sp vs H Q E →
   ∃ t, QB (Zh3 CX0 P w K mg base N qual (Zaa st) f cdv A outer s H E).nox (Zaf st) t ∧ t { nx := fun _ H' => Q .non H', rt := Q } (Zav N vs) H) : FnOk P w K mg base CX0 (k + 1) f fd ps sp :=
 F.ok S len fun cdv A outer s H vs Q E hr h => by
  obtain ⟨t, q, r⟩ := hbody cdv A outer s H vs Q E hr h
  exact ⟨t, q.h, r⟩
end My
namespace My
open PySem PySem.Spec L2
open PyProof.Rows hiding St
theorem ZlL {P : Program} {w : World} {H : Hp} {h : Heap} {a : Addr} {o : HO} (x : ObjOk P w H h a o) : ∃ u, h.get? a = some u := by
 cases o with
 | lst xs => obtain ⟨_, _, _, _, e⟩ := x; exact ⟨_, e⟩
 | tup xs => obtain ⟨_, _, _, u, e, _⟩ := x; exact ⟨_, e⟩
 | dK kvs => obtain ⟨_, _, _, _, u, _, _, e, _⟩ := x; exact ⟨u, e⟩
 | dT kvs => obtain ⟨_, _, _, _, u, _, _, e, _⟩ := x; exact ⟨u, e⟩
 | set S n => obtain ⟨u, _, _, _, e, _⟩ := x; exact ⟨_, e⟩
 | ins C dx fs => obtain ⟨_, _, _, e, _⟩ := x; exact ⟨_, e⟩
 | own y => exact x
 | xd fs => obtain ⟨_, ⟨u, _, _, e, _⟩, _⟩ := x; exact ⟨_, e⟩
 | rng lo hi => obtain ⟨_, _, _, e⟩ := x; exact ⟨_, e⟩
 | frz ob u => exact ⟨_, x.1⟩
 | tbl ps => obtain ⟨_, e, _⟩ := x; exact ⟨_, e⟩
 | met f y => exact ⟨_, x⟩
 | ext φ => exact x.2.1
structure Cv (X : Cx) (pins : List (Addr × Obj)) (B : Heap) (H : Hp) : Prop where
 old : ∀ b o, X.s₀.heap.get? b = some o → b ∉ frs X.stack → ∃ o', B.get? b = some o'
 trk : ∀ b o, H b = some o → ∃ o', B.get? b = some o'
 cel : ∀ x c, X.env.cells.lookup x = some c → ∃ o', B.get? c = some o'
 pin : ∀ p ∈ X.pn ++ pins, ∃ o', B.get? p.1 = some o'
section
variable {X : Cx} {pins : List (Addr × Obj)} {σ : St} {H : Hp} {s : Shared}
end
def CX1 (P : Program) (w : World) : CXT := fun outer H s E e s' => ∃ (ea C : Addr) (a0 : Value) (B : Heap) (H' : Hp), e = .ref ea ∧ s'.os = s.os ∧ AllBare s'.gens ∧ Un (frs outer) [] H H' s.heap s'.heap ∧ HOk P w H' s'.heap ∧
 Heap.FlyingW B outer ea (.ref C) a0 s'.heap ∧ (∀ b o, s.heap.get? b = some o → b ∉ frs outer → ∃ o', B.get? b = some o') ∧ (∀ b o, H' b = some o → ∃ o', B.get? b = some o') ∧ E (.ref C) none H'
structure Body (X : Cx) : Prop where
 st : X.stack = X.env :: X.outer
 fr : X.env.frame = some X.env.locals
 ex : X.ex = []
 fn : ∀ x, X.fn x = true
structure Goes (X : Cx) (E : XK) : Prop extends Body X where
 xe : ∀ e s', wpAny (model X.prog X.w) X.A (leaving X.env e) (fun _ s'' => CX1 X.prog X.w X.outer X.H₀ X.s₀ E e s'') (fun e' s'' => CX1 X.prog X.w X.outer X.H₀ X.s₀ E e' s'') s' → X.xe e s'
section
variable {X : Cx} {E : XK} {pins : List (Addr × Obj)} {σ : St} {H : Hp} {s : Shared}
theorem Body.apart (b : Body X) (I : Inv X pins σ H s) : (∀ x c, X.env.cells.lookup x = some c → (∃ o, s.heap.get? c = some o) ∧ c ∉ frs X.stack) ∧ (∀ p ∈ X.pn ++ pins, s.heap.get? p.1 = some p.2 ∧ p.1 ∉ frs X.stack) ∧
  (∀ a o, X.s₀.heap.get? a = some o → ∃ o', s.heap.get? a = some o') ∧ (∀ a o, H a = some o → (∃ o', s.heap.get? a = some o') ∧ a ∉ frs X.stack) := by
 refine ⟨fun x c e => ?_, fun p hp => ?_, fun a o e => ?_, fun a o e => ?_⟩
 ·obtain ⟨v, o, ho, hd⟩ := I.cell x c e
  refine ⟨⟨o, ho⟩, fun z => ?_⟩
  rcases List.mem_cons.mp (I.stkSub c z) with q | q
  ·exact I.cne x c e q
  ·obtain ⟨_, o', e', _⟩ := I.ok.funs.mem q
   exact absurd (Nat.lt_of_lt_of_le (Heap.lt_size e') (I.ok.cab x c (b.fn x) e)) (Nat.lt_irrefl _)
 ·obtain ⟨e, n, ne, nf, d⟩ := I.pin p hp
  exact ⟨e, fun z => (List.mem_cons.mp (I.stkSub _ z)).elim ne nf⟩
 ·exact I.base.there a o e (by rw [b.ex]; exact List.not_mem_nil)
 ·exact ⟨ZlL (I.hok a o e), fun z => by rw [I.stkFree a z] at e; cases e⟩
end
section
variable {X : Cx} {E : XK} {x : Str} {C : Addr} {np cpos pos : Pos} {e₀ : Expr} {rest : List Expr} {t : TA}
def tRaise (C : Addr) (E : XK) (t : TA) : TS := fun _ σ H => t σ H fun vs H1 => vs.length ≤ 1000 ∧ E (.ref C) none H1
end
def XP (X : Cx) (pins : List (Addr × Obj)) (σ : St) (EX : XK) (e : Value) (s' : Shared) : Prop :=
 ∃ (ea C : Addr) (a0 : Value) (B : Heap) (H' : Hp), e = .ref ea ∧ Inv X pins σ H' s' ∧ Heap.FlyingW B X.stack ea (.ref C) a0 s'.heap ∧ Cv X pins B H' ∧ EX (.ref C) none H'
abbrev TEX := St → Hp → VK → XK → Prop
def PEX (X : Cx) (e : Expr) (t : TEX) : Prop :=
 ∀ (pins : List (Addr × Obj)) (s : Shared) (σ : St) (H : Hp) (Q : VK) (EX : XK), Inv X pins σ H s → t σ H Q EX → wpAny (model X.prog X.w) X.A (eval e X.env) (EP X pins σ Q) (XP X pins σ EX) s
abbrev TSX := Ends → (St → XK) → St → Hp → Prop
def PSsX (X : Cx) (sts : List Stmt) (t : TSX) : Prop :=
 ∀ (pins : List (Addr × Obj)) (s : Shared) (σ : St) (H : Hp) (D : Ends) (EX : St → XK), Inv X pins σ H s → t D EX σ H →
  wpAny (model X.prog X.w) X.A (execs sts X.env) (SP X pins D) (fun e s' => ∃ σ', XP X pins σ' (EX σ') e s') s
section
variable {X : Cx} {j k : Nat} {x : Str} {ps : List Str} {sp : Sp} {p pos : Pos} {e : Expr} {es : List Expr} {t : TA} {f : Addr} {fd : FuncData} {ds : List Value} {dvs : List V}
def tCallX (sp : Sp) (dvs : List V) (t : TA) : TEX := fun σ H Q EX => t σ H fun vs H1 => sp (vs ++ dvs) H1 Q EX
end
end My
namespace My
open PySem PySem.Spec L2
open PyProof.Rows hiding St
section
variable {X : Cx} {pins : List (Addr × Obj)} {σ : St} {H : Hp} {s : Shared} {ea : Addr}
def ExcAt (C ea : Addr) (h : Heap) : Prop := ∃ o, h.get? ea = some o ∧ o.cls = .ref C
def hoExc (C ea : Addr) : HO := .ext (ExcAt C ea)
end
def tHand (K : PySem.W.Frag) (D : Addr) (i : Nat) (th : Addr → TS) (En : Ends) (σ : St) : XK := fun c _ H' => ∃ C, c = .ref C ∧ PySem.W.exmOne K (.ref C) (.ref D) = some true ∧ ∀ ea, H' ea = none →
 th ea { nx := fun σ2 H2 => En.nx (σ2.set i none) H2, rt := En.rt, bk := fun σ2 H2 => En.bk (σ2.set i none) H2, ct := fun σ2 H2 => En.ct (σ2.set i none) H2 } (σ.set i (some (.ref ea))) (upd H' ea (hoExc C ea))
def tTry (K : PySem.W.Frag) (tb : TSX) (D : Addr) (i : Nat) (th : Addr → TS) : TS := fun En σ H => tb En (tHand K D i th En) σ H
section
variable {X : Cx} {body : List Stmt} {x n : Str} {np hpos pos : Pos} {b₀ : Stmt} {suite : List Stmt} {tb : TSX} {th : Addr → TS} {D : Addr} {i : Nat}
end
end My
namespace My
open PySem PySem.Spec L2 PySem.W PySem.Builtin PySem.Builtin.ObjectAttr PySem.Builtin.Getset_descriptor
open PyProof.Rows hiding St
section
variable {prog : Program} {w : World} {A : Around} {E : Value → Shared → Prop} {s : Shared} {K : Frag} {x D : Addr}
structure ExcK (K : Frag) (D : Addr) : Prop where
 cl : (clsIn K D).isSome = true
 ga : findIn K (.ref D) "__getattribute__" = some (some (.builtin "BaseException.__getattribute__"))
 no : findIn K (.ref D) "__getattr__" = some none
 ha : findIn K (.ref D) "__class__" = some (some (.builtin "object.__class__"))
 hn : specialIn K (.builtin "object.__class__") "__get__" = some (some (.builtin "getset_descriptor.__get__"))
 tk : takesIn K (.builtin "object.__class__") = some true
 mo : mroIn K D (.type "object") = some true
 mb : mroIn K D (.type "BaseException") = some true
end
end My
namespace My
open PySem PySem.Spec L2
open PyProof.Rows hiding St
section
variable {X : Cx} {e : Expr} {es : List Expr} {t : TA} {pos p : Pos}
end
structure FunD (K : PySem.W.Frag) (x qual : Str) (st : Stmt) (dV : Value) (f : Addr) (fd : FuncData) : Prop where
 ex : ∃ (oc : Value) (od : Option Addr) (kV doc pm : Value) (an : Option Addr) (cdv ct : Value) (osl : Array (Option Value)),
  fd = PySem.W.fnOf x qual (Zag st) (Zaf st) (Zaa st) dV kV doc pm an cdv ct ∧ K.lookup f = some ⟨oc, od, .func fd, osl⟩ ∧ PySem.W.codeIn K cdv qual = true
 kp : PySem.W.keepIn K (.ref f) = true
theorem fund_mk {K : PySem.W.Frag} {x qual : Str} {st : Stmt} {dV : Value} {f : Addr} {oc : Value} {od an : Option Addr} {osl : Array (Option Value)} {kV doc pm cdv ct : Value} (l : K.lookup f = some ⟨oc, od, .func (PySem.W.fnOf x qual (Zag st) (Zaf st) (Zaa st) dV kV doc pm an cdv ct), osl⟩)
  (c : PySem.W.codeIn K cdv qual = true) (k : PySem.W.keepIn K (.ref f) = true) : FunD K x qual st dV f (PySem.W.fnOf x qual (Zag st) (Zaf st) (Zaa st) dV kV doc pm an cdv ct) := ⟨⟨oc, od, kV, doc, pm, an, cdv, ct, osl, rfl, l, c⟩, k⟩
section
variable {P : Program} {w : World} {K : PySem.W.Frag} {mg : Str → Option Value} {base : Heap} {x qual : Str} {st : Stmt} {dV : Value} {f : Addr} {fd : FuncData} {N ps : List Str} {k : Nat} {sp : Sp}
theorem okQD (F : FunD K x qual st dV f fd) (S : FnScope N ps (Zaa st)) (len : ∀ vs H Q E, sp vs H Q E → vs.length = ps.length)
  (hbody : ∀ (cdv : Value) (A : Around) (outer : List Env) (s : Shared) (H : Hp) (vs : List V) (Q : VK) (E : XK), Room k (A.deeper (envOfC qual (Zaa st) s.heap.objs.size f cdv)) → sp vs H Q E →
   ∃ t, QB (Zh3 CX0 P w K mg base N qual (Zaa st) f cdv A outer s H E).nox (Zaf st) t ∧ t { nx := fun _ H' => Q .non H', rt := Q } (Zav N vs) H) : FnOk P w K mg base CX0 (k + 1) f fd ps sp := by
 obtain ⟨oc, od, kV, doc, pm, an, cdv, ct, osl, rfl, lk, hcd⟩ := F.ex
 refine fn_of lk hcd S len fun A outer s H vs Q E hr hsp => ?_
 obtain ⟨t, h, q⟩ := hbody cdv A outer s H vs Q E hr hsp
 exact ⟨t, h.h.nox, q⟩
end
theorem Zcj {x y : Int} {a b : Nat} (hx : x.natAbs < 2 ^ a) (hy : y.natAbs < 2 ^ b) (h : a + b ≤ 1000000) : IntMulOk x y := by
 have key : ∀ {z : Int} {n : Nat}, z.natAbs < 2 ^ n → Builtin.Int.intBits z ≤ n := fun {z n} hz => by
  unfold Builtin.Int.intBits
  split
  ·exact Nat.zero_le _
  ·rename_i h0
   have h1 : z.natAbs ≠ 0 := by
    intro q
    apply h0
    have : z = 0 := by omega
    simp [this]
   have := (Nat.log2_lt h1).mpr hz
   omega
 exact IntMulOk.of_le (key hx) (key hy) (by omega)
structure FnD (P : Program) (w : World) (K : PySem.W.Frag) (mg : Str → Option Value) (base : Heap) (CX : CXT) (k : Nat) (x : Str) (ps : List Str) (dvs : List V) (sp : Sp) : Prop where
 ex : ∃ (f : Addr) (fd : FuncData) (ds : List Value), FnOk P w K mg base CX k f fd ps sp ∧ Binds K fd ps ds ∧ Vals dvs ds ∧ PySem.W.keepIn K (.ref f) = true ∧ mg x = some (.ref f)
structure QX (X : Cx) (e : Expr) (t : TEX) : Prop where
 h : PEX X e t
structure QSX (X : Cx) (sts : List Stmt) (t : TSX) : Prop where
 h : PSsX X sts t
section
variable {X : Cx} {E : XK} {j k : Nat} {x : Str} {ps : List Str} {sp : Sp} {p pos : Pos} {e : Expr} {es : List Expr} {t : TA} {dvs : List V} {C : Addr}
theorem q_fnD (F : FnD X.prog X.w X.K X.mg X.base CX0 j x ps dvs sp) (hr : Room k X.A) (hj : j ≤ k) (hg : Gl X x) (ha : QA X (e :: es) t) (hp : (e :: es).all Zao = true := by rfl) (hdb : (x == ("__debug__" : Str)) = false := by decide) :
  QE X (.Call (.Name x p) (e :: es) [] pos) (Zf3 sp dvs E0 t) := by
 obtain ⟨f, fd, ds, G, b, v, kp, m⟩ := F.ex
 exact ⟨ZiI G (hr.mono hj) hg m kp b v Zia ha.h hdb (Zak (Za8 hp).1) (ZdE (Za8 hp).2)⟩
def tXE (te : TEX) : TSX := fun D EX σ H => te σ H (fun _ H1 => D.nx σ H1) (EX σ)
def tXS (i : Nat) (te : TEX) : TSX := fun D EX σ H => te σ H (fun v H1 => D.nx (σ.set i (some v)) H1) (EX σ)
end
end My
namespace My
open PySem PySem.Spec L2
open PyProof.Rows hiding St
inductive EqD (H : Hp) : V → V → Bool → Nat → Prop where
 | flat {x y : V} (fx : Zdb x = true) (fy : Zdb y = true) : EqD H x y (eqV x y) 0
 | tup {a b : Addr} {xs ys : List V} {e : Nat → Bool} {n : Nat} (ha : H a = some (.tup xs)) (hb : H b = some (.tup ys)) (h : ∀ j x y, xs[j]? = some x → ys[j]? = some y → EqD H x y (e j) n) :
   EqD H (.ref a) (.ref b) ((List.range (min xs.length ys.length)).all e && xs.length == ys.length) (n + 1)
 | lst {a b : Addr} {xs ys : List V} {e : Nat → Bool} {n : Nat} (ha : H a = some (.lst xs)) (hb : H b = some (.lst ys)) (hl : xs.length = ys.length) (h : ∀ j x y, xs[j]? = some x → ys[j]? = some y → EqD H x y (e j) n) :
   EqD H (.ref a) (.ref b) ((List.range xs.length).all e) (n + 1)
 | lstNe {a b : Addr} {xs ys : List V} {n : Nat} (ha : H a = some (.lst xs)) (hb : H b = some (.lst ys)) (hl : xs.length ≠ ys.length) : EqD H (.ref a) (.ref b) false (n + 1)
 | up {x y : V} {b : Bool} {n : Nat} (h : EqD H x y b n) : EqD H x y b (n + 1)
theorem ZcW {x : V} (h : Zdb x = true) : eqV x x = true := by
 cases x
 case non => rfl
 case bl b => simp [eqV]
 case int i => simp [eqV]
 case str y => simp [eqV]
 all_goals exact absurd (show false = true from h) (by decide)
theorem ZdM {n : Nat} {e : Nat → Bool} (h : ∀ j, j < n → e j = true) : (List.range n).all e = true := List.all_eq_true.mpr fun j hj => h j (List.mem_range.mp hj)
theorem EqD.self {H : Hp} {x y : V} {b : Bool} {n : Nat} (h : EqD H x y b n) : x = y → b = true := by
 induction h with
 | flat fx fy => intro e; subst e; exact ZcW fx
 | @tup a b xs ys e n ha hb h ih =>
  intro q
  injection q with q
  subst q
  rw [ha] at hb
  injection hb with hb
  injection hb with hb
  subst hb
  rw [ZdM, Bool.true_and, beq_self_eq_true]
  intro j hj
  rw [Nat.min_self] at hj
  exact ih j _ _ (List.getElem?_eq_getElem hj) (List.getElem?_eq_getElem hj) rfl
 | @lst a b xs ys e n ha hb hl h ih =>
  intro q
  injection q with q
  subst q
  rw [ha] at hb
  injection hb with hb
  injection hb with hb
  subst hb
  exact ZdM fun j hj => ih j _ _ (List.getElem?_eq_getElem hj) (List.getElem?_eq_getElem hj) rfl
 | up h ih => exact ih
 | lstNe ha hb hl =>
  intro q
  injection q with q
  subst q
  rw [ha] at hb
  injection hb with hb
  injection hb with hb
  subst hb
  exact absurd rfl hl
section
variable {X : Cx} {pins : List (Addr × Obj)} {σ : St} {H : Hp} {s : Shared}
theorem EqD.at (I : Inv X pins σ H s) {x y : V} {b : Bool} {n : Nat} (h : EqD H x y b n) : ∀ {A : Around} {u v : Value}, RelV x u → RelV y v → A.units + n < cLine →
  SeqAt.EqAt A s u v b ∧ ((∃ a c, x = .ref a ∧ y = .ref c) → SeqAt.RcAt A s u v b) := by
 induction h with
 | flat fx fy =>
  intro A u v r1 r2 _
  refine ⟨ZjV r1 r2 fx fy, ?_⟩
  rintro ⟨a, c, rfl, _⟩
  cases fx
 | @tup a b xs ys e n ha hb h ih =>
  intro A u v r1 r2 hu
  cases r1
  cases r2
  obtain ⟨its, v1, t1, _⟩ := I.tuple (SqT.of ha)
  obtain ⟨jts, v2, t2, _⟩ := I.tuple (SqT.of hb)
  have rc : SeqAt.RcAt A s (.ref a) (.ref b) ((List.range (min xs.length ys.length)).all e && xs.length == ys.length) := by
   have z := SeqAt.RcAt.tuples (A := A) (s := s) (e := e) t1 t2 (by omega) fun j h1 h2 => by
    have k1 : j < xs.length := by rw [v1.length]; simpa using h1
    have k2 : j < ys.length := by rw [v2.length]; simpa using h2
    obtain ⟨u1, q1, w1⟩ := v1.get (List.getElem?_eq_getElem k1)
    obtain ⟨u2, q2, w2⟩ := v2.get (List.getElem?_eq_getElem k2)
    have g1 : its.toArray[j] = u1 := by
     have := List.getElem?_eq_some_iff.mp q1
     obtain ⟨hh, this⟩ := this
     simpa using this
    have g2 : jts.toArray[j] = u2 := by
     have := List.getElem?_eq_some_iff.mp q2
     obtain ⟨hh, this⟩ := this
     simpa using this
    rw [g1, g2]
    exact (ih j _ _ (List.getElem?_eq_getElem k1) (List.getElem?_eq_getElem k2) w1 w2 (by show A.units + 1 + n < cLine; omega)).1
   simpa [v1.length, v2.length] using z
  refine ⟨?_, fun _ => rc⟩
  by_cases q : a = b
  ·have := (EqD.tup ha hb h).self (by rw [q])
   rw [this, q]
   exact SeqAt.EqAt.same _
  ·exact SeqAt.EqAt.of_refs q rc
 | @lst a b xs ys e n ha hb hl h ih =>
  intro A u v r1 r2 hu
  cases r1
  cases r2
  obtain ⟨its, v1, t1, _⟩ := I.list (SqL.of ha)
  obtain ⟨jts, v2, t2, _⟩ := I.list (SqL.of hb)
  have rc : SeqAt.RcAt A s (.ref a) (.ref b) ((List.range xs.length).all e) := by
   have z := SeqAt.RcAt.lists (A := A) (s := s) (e := e) t1.isList t2.isList (by simp [← v1.length, ← v2.length, hl]) (by omega) fun j h1 h2 => by
    have k1 : j < xs.length := by rw [v1.length]; simpa using h1
    have k2 : j < ys.length := by rw [v2.length]; simpa using h2
    obtain ⟨u1, q1, w1⟩ := v1.get (List.getElem?_eq_getElem k1)
    obtain ⟨u2, q2, w2⟩ := v2.get (List.getElem?_eq_getElem k2)
    have g1 : its.toArray[j] = u1 := by
     have := List.getElem?_eq_some_iff.mp q1
     obtain ⟨hh, this⟩ := this
     simpa using this
    have g2 : jts.toArray[j] = u2 := by
     have := List.getElem?_eq_some_iff.mp q2
     obtain ⟨hh, this⟩ := this
     simpa using this
    rw [g1, g2]
    exact (ih j _ _ (List.getElem?_eq_getElem k1) (List.getElem?_eq_getElem k2) w1 w2 (by show A.units + 1 + n < cLine; omega)).1
   simpa [v1.length, v2.length] using z
  refine ⟨?_, fun _ => rc⟩
  by_cases q : a = b
  ·have := (EqD.lst ha hb hl h).self (by rw [q])
   rw [this, q]
   exact SeqAt.EqAt.same _
  ·exact SeqAt.EqAt.of_refs q rc
 | up h ih =>
  intro A u v r1 r2 hu
  exact ih r1 r2 (by omega)
 | @lstNe a b xs ys n ha hb hl =>
  intro A u v r1 r2 hu
  cases r1
  cases r2
  obtain ⟨its, v1, t1, _⟩ := I.list (SqL.of ha)
  obtain ⟨jts, v2, t2, _⟩ := I.list (SqL.of hb)
  have rc : SeqAt.RcAt A s (.ref a) (.ref b) false := SeqAt.RcAt.lists_lengths t1.isList t2.isList (by simp [← v1.length, ← v2.length]; exact hl) (by omega)
  have ne : a ≠ b := fun q => by
   subst q
   rw [ha] at hb
   injection hb with hb
   injection hb with hb
   subst hb
   exact hl rfl
  exact ⟨SeqAt.EqAt.of_refs ne rc, fun _ => rc⟩
end
section
variable {X : Cx} {a b : Expr} {ta tb : TE} {pos : Pos} {k : Nat}
def rEqD : R2 := fun x y H Q => ∃ t n p c, x = .ref p ∧ y = .ref c ∧ EqD H x y t n ∧ n ≤ 60 ∧ Q (.bl t) H
theorem op_eqD (hr : Room k X.A) : OpR X (compareOp .Eq) rEqD := by
 intro pins s σ H x y v u Q I rx ry h
 obtain ⟨t, n, p, c, e1, e2, h, hn, q⟩ := h
 have hu := hr.units
 exact ((h.at I rx ry (by omega)).2 ⟨p, c, e1, e2⟩) _ _ _ _ ⟨.bl t, H, I, rfl, q⟩
theorem q_eqD (hr : Room k X.A) (ha : QE X a ta) (hb : QE X b tb) : QE X (.Compare a [.Eq] [b] pos) (tOp rEqD ta tb) := ⟨Zd1 (op_eqD hr) ha.h hb.h (Zca _)⟩
end
end My
namespace My
open PySem PySem.Spec L2
open PyProof.Rows hiding St
section
variable {X : Cx} {pins : List (Addr × Obj)} {σ : St} {H : Hp} {s : Shared} {h' : Heap}
theorem ZdH {t' : Nat} {ch : List Addr} {o : HO} (I : Inv X pins σ H s) (k : ∀ b u, b ∉ ch → s.heap.get? b = some u → h'.get? b = some u) (hf : ∀ b ∈ ch, Zdk X pins H b) (new : ObjOk X.prog X.w (upd H s.heap.objs.size o) h' s.heap.objs.size o) :
  Inv X pins σ (upd H s.heap.objs.size o) { s with heap := h', toks := t' } := by
 have hn : H s.heap.objs.size = none := I.hok.fresh (Nat.le_refl _)
 have nch : ∀ b u, H b = some u → b ∉ ch := fun b u e z => by rw [(hf b z).1] at e; cases e
 have old : ∀ b u, H b = some u → upd H s.heap.objs.size o b = some u := fun b u e => by rw [Zae (Zaj e hn)]; exact e
 refine I.step (g' := s.gens) (d' := s.drawn) (ch := ch) (fun b hb => ⟨(hf b hb).2.2.2.1, (hf b hb).2.1, (hf b hb).2.2.2.2.1, (hf b hb).2.2.2.2.2⟩) (fun b u _ _ hc e _ => k b u hc e) (fun b u _ _ hc e _ => ⟨u.slots, k b u hc e⟩)
  (fun b u hc e n => by rw [Zae (Nat.ne_of_lt (Heap.lt_size e))]; exact n) (fun b u hc e => ⟨u, k b u hc e⟩) (fun b xs e => old b _ e) (fun b x u e => old b _ e) (fun b ps e => ⟨#[], by rw [old b _ e]; simp⟩) (fun m hm => ?_) (fun b u e => ?_) I.bare
 ·obtain ⟨u, es, ep, ho, r⟩ := hm
  exact ⟨u, es, ep, k _ u (fun z => (hf _ z).2.1 rfl) ho, r⟩
 ·by_cases hb : b = s.heap.objs.size
  ·subst hb; rw [upd_same] at e; cases e; exact new
  ·rw [Zae hb] at e
   refine (I.hok b u e).stay (fun c v hc q => k c v ?_ q) (fun c q => old c _ q) (fun c xs q => old c _ q) fun c o q => old c _ q
   rcases hc with z | z
   ·rw [z]; exact nch b u e
   ·exact nch c _ z
theorem Zj1 {t' : Nat} {ch : List Addr} (I : Inv X pins σ H s) (k : ∀ b u, b ∉ ch → s.heap.get? b = some u → h'.get? b = some u) (hf : ∀ b ∈ ch, Zdk X pins H b) : Inv X pins σ H { s with heap := h', toks := t' } := by
 have nch : ∀ b u, H b = some u → b ∉ ch := fun b u e z => by rw [(hf b z).1] at e; cases e
 refine I.step (g' := s.gens) (d' := s.drawn) (ch := ch) (fun b hb => ⟨(hf b hb).2.2.2.1, (hf b hb).2.1, (hf b hb).2.2.2.2.1, (hf b hb).2.2.2.2.2⟩) (fun b u _ _ hc e _ => k b u hc e) (fun b u _ _ hc e _ => ⟨u.slots, k b u hc e⟩)
  (fun b u hc e n => n) (fun b u hc e => ⟨u, k b u hc e⟩) (fun b xs e => e) (fun b x u e => e) (fun b ps e => ⟨#[], by rw [e]; simp⟩) (fun m hm => ?_) (fun b u e => ?_) I.bare
 ·obtain ⟨u, es, ep, ho, r⟩ := hm
  exact ⟨u, es, ep, k _ u (fun z => (hf _ z).2.1 rfl) ho, r⟩
 ·refine (I.hok b u e).stay (fun c v hc q => k c v ?_ q) (fun c q => q) fun c xs q => q
  rcases hc with z | z
  ·rw [z]; exact nch b u e
  ·exact nch c _ z
def Ite (K : PySem.W.Frag) (a : Addr) : It :=
 ⟨fun i H => ∃ xs x, SqL K H a xs ∧ xs[i]? = some x, fun i H x H' => ∃ p y, x = .ref p ∧ H p = none ∧ Same H H' ∧ H' p = some (.tup [.int i, y]) ∧ ∀ xs, SqL K H a xs → xs[i]? = some y, fun i H => ∃ xs, SqL K H a xs ∧ xs.length ≤ i⟩
theorem Zja {P : Program} {w : World} {K : PySem.W.Frag} {es : List Expr} {x1} {pos : Pos} (a it e : Addr) (hne : e ≠ it) : Turn P w K (.Tuple es x1 pos) (Ite K a) [it, e] e (fun i h => (∃ old, IsEnum h e it (i : Nat) old) ∧ h.IsListIter it a i) where
 mem := by simp
 obj := fun i h st b hb => by
  obtain ⟨⟨old, he⟩, o, eo, c, d⟩ := st
  rcases List.mem_cons.mp hb with z | z
  ·subst z; exact ⟨o, eo, fun v z => by rw [d] at z; cases z⟩
  ·have z : b = e := by simpa using z
   subst z; exact ⟨_, he, fun v z => by cases z⟩
 keep := fun i h h' st k => ⟨⟨st.1.choose, k e (by simp) _ st.1.choose_spec⟩, st.2.at fun o x => k it (by simp) o x⟩
 item := by
  intro X hP hw hK hc i pins s σ H E I hf st hg
  subst hP hw hK
  obtain ⟨⟨old, he⟩, hit⟩ := st
  obtain ⟨xs, x, hq, hx⟩ := hg
  obtain ⟨its, rv, p, hz⟩ := I.list hq
  obtain ⟨u, hu, ru⟩ := rv.get hx
  have hn : H s.heap.objs.size = none := I.hok.fresh (Nat.le_refl _)
  refine wpAny_pyNext_enum_item he hit p.isList (x := u) (by simpa using hu) hne fun h' eo st' ht hsz kk => ?_
  refine ⟨_, rfl, wpAny_letOwnedTupleGo_enum (s := { s with heap := h', toks := s.toks + 1 }) eo fun h2 he2 sb => ?_⟩
  have sb2 : ∀ b, b ≠ e → h2.get? b = h'.get? b := sb.2
  have hel : s.heap.objs.size ≠ e := Nat.ne_of_gt (Heap.lt_size he)
  have kt : h2.get? s.heap.objs.size = some { cls := .type "tuple", data := .seq #[.int i s.toks, u] } := (sb2 _ hel).trans ht
  have I1 : Inv X pins σ (upd H s.heap.objs.size (.tup [.int i, x])) { s with heap := h2, toks := s.toks + 1 } := by
   refine ZdH (ch := [it, e]) I (fun b o hb q => ?_) hf ?_
   ·have hb' : b ≠ it ∧ b ≠ e := by simpa using hb
    rw [sb2 b hb'.2]
    exact kk b o hb'.2 hb'.1 q
   ·exact ⟨by show 2 ≤ sizeLine; decide, [.int i s.toks, u], .cons ⟨_, rfl⟩ (.cons ru .nil), ⟨_, kt, rfl, _, rfl⟩⟩
  refine ⟨.ref s.heap.objs.size, _, I1, rfl, ⟨_, x, rfl, hn, ZaK hn _, upd_same, fun ys hy => by rw [I.list_inj hy hq]; exact hx⟩, ⟨⟨u, ?_⟩, ?_⟩, fun b hb => ?_⟩
  ·exact he2
  ·obtain ⟨o, q, r⟩ := st'
   exact ⟨o, (sb2 it (Ne.symm hne)).trans q, r⟩
  ·have hb1 := (hf b hb).1
   have : b ≠ s.heap.objs.size := fun z => by
    rcases List.mem_cons.mp hb with y | y
    ·obtain ⟨o, q, _⟩ := hit
     exact Nat.lt_irrefl _ (by have := Heap.lt_size q; rw [← y, z] at this; exact this)
    ·have y : b = e := by simpa using y
     exact hel (z.symm.trans y)
   rw [Zae this]
   exact hb1
 done := by
  intro X hP hw hK hc i pins s σ H E I hf st hg
  subst hP hw hK
  obtain ⟨⟨old, he⟩, hit⟩ := st
  obtain ⟨xs, hq, hx⟩ := hg
  obtain ⟨its, rv, p, hz⟩ := I.list hq
  have hl := rv.length
  refine wpAny_pyNext_enum_end (I.ok.hd hc) he hit p.isList (by simp; omega) fun h' eb => ⟨rfl, Zj1 (t' := s.toks) (ch := [it, e]) I (fun b o hb q => eb b o (fun z => hb (by simp [z])) q) hf⟩
 self := fun _ _ _ _ _ st h => wpAny_pyIter_enum st.1.choose_spec h
def iEnum (K : PySem.W.Frag) (ta : TA) : TI := fun σ H R => ta σ H fun vs H1 => ∃ a, vs = [.ref a] ∧ (∃ xs, SqL K H1 a xs) ∧ R (Ite K a) H1
theorem pi_enum {l : Expr} {ta : TA} {p pos pos' : Pos} {es : List Expr} {x1} (hg : Gl X "enumerate") (hm : X.mg "enumerate" = none) (ha : PA X [l] ta) (hs : starEach [l] X.env = [(false, eval l X.env)] := by rfl) : PI X (.Tuple es x1 pos') (.Call (.Name "enumerate" p) [l] [] pos) (iEnum X.K ta) := by
 intro pins s σ H R I h
 refine Call_ (ZbO I hg hm boot_enumerate (PyProof.Rows.callWith_type1 (thn (ha pos pins s σ H _ I h) fun us s1 ⟨vs, H1, I1, r1, q1⟩ => ?_) hs rfl))
 obtain ⟨a, e, ⟨xs, hq⟩, q⟩ := q1
 subst e
 cases r1 with
 | cons r rr =>
  cases rr
  cases r
  obtain ⟨its, rv, pl, hz⟩ := I1.list hq
  refine call_enumerate_list pl.isList fun h' he hit hsz kk => ?_
  have I2 : Inv X pins σ H1 { s1 with heap := h' } := I1.kept (t' := s1.toks) kk
  refine wpAny_pyIter_enum (s := { s1 with heap := h' }) he ⟨_, [s1.heap.objs.size, s1.heap.objs.size + 1], _, _, H1, rfl, I2, Zja a _ _ (Nat.succ_ne_self _), ⟨⟨.none, he⟩, hit⟩, fun b hb => ?_, q⟩
  have hb' : s1.heap.objs.size ≤ b := by
   rcases List.mem_cons.mp hb with z | z
   ·exact Nat.le_of_eq z.symm
   ·have z : b = s1.heap.objs.size + 1 := by simpa using z
    rw [z]; exact Nat.le_succ _
  exact I1.fpOk hb' (I1.hok.fresh hb')
theorem ZdQ : ∀ {xs : List V} {us : List Value}, xs.length = us.length → (∀ (i : Nat) x u, xs[i]? = some x → us[i]? = some u → RelV x u) → Vals xs us
 | [], [], _, _ => .nil
 | x :: xs, u :: us, hl, h => .cons (h 0 x u rfl rfl) (ZdQ (by simpa using hl) fun i x u h1 h2 => h (i + 1) x u h1 h2)
def rngL (lo hi : Int) : List V := (List.range (hi - lo).toNat).map fun k : Nat => V.int (lo + (k : Int))
theorem ZeH {lo hi : Int} : (rngL lo hi).length = (hi - lo).toNat := by simp [rngL]
theorem Zkw {lo hi : Int} {i : Nat} (h : i < (hi - lo).toNat) : (rngL lo hi)[i]? = some (.int (lo + i)) := by
 unfold rngL
 rw [List.getElem?_map, List.getElem?_range h]
 rfl
def tRng2 (ta : TA) : TE := fun σ H Q => ta σ H fun vs H1 => ∃ i j : Int, vs = [.int i, .int j] ∧ ∀ p H2, H1 p = none → Same H1 H2 → H2 p = some (.rng i j) → Q (.ref p) H2
theorem pe_rng2 {a b : Expr} {ta : TA} {p pos : Pos} (hg : Gl X "range") (hm : X.mg "range" = none) (ha : PA X [a, b] ta) (hs : starEach [a, b] X.env = [(false, eval a X.env), (false, eval b X.env)] := by rfl) (hs2 : starEach [b] X.env = [(false, eval b X.env)] := by rfl) :
  PE X (.Call (.Name "range" p) [a, b] [] pos) (tRng2 ta) := by
 intro pins s σ H R I h
 refine Call_ (ZbO I hg hm boot_range (PyProof.Rows.callWith_type1 (thn (ha pos pins s σ H _ I h) fun us s1 ⟨vs, H1, I1, r1, q1⟩ => ?_) (by rw [hs, hs2]) (by rw [hs2]; rfl)))
 obtain ⟨i, j, e, q⟩ := q1
 subst e
 obtain ⟨u, v, rfl, ⟨t, rfl⟩, t', rfl⟩ := ZjN r1
 have hf : H1 s1.heap.objs.size = none := I1.hok.fresh (Nat.le_refl _)
 exact call_range_2 ⟨.ref s1.heap.objs.size, upd H1 s1.heap.objs.size (.rng i j), I1.laid (fun b u e => Heap.get?_push_of_some _ e) (Nat.le_refl _) ⟨_, _, _, Heap.get?_push_size _ rfl⟩, rfl, q _ _ hf (ZaK hf _) upd_same⟩
def Zhv (K : PySem.W.Frag) : List V → Hp → VK → Prop := fun xs H Q => ∃ p ys, xs = [.ref p] ∧ (SqL K H p ys ∨ SqT K H p ys ∨ ∃ lo hi, H p = some (.rng lo hi) ∧ -(2 ^ 62) ≤ lo ∧ lo < 2 ^ 62 ∧ -(2 ^ 62) ≤ hi ∧ hi < 2 ^ 62 ∧ ys = rngL lo hi ∧ hi - lo ≤ 1000000) ∧
 ∀ l H2, H l = none → Same H H2 → H2 l = some (.lst ys) → Q (.ref l) H2
theorem ZhP (hc : X.calm = true) : CallR X (.type "list") (Zhv X.K) := by
 intro pins s σ H xs us Q I r h
 obtain ⟨p, ys, rfl, hq, q⟩ := h
 have old : ∀ l, H l = none → Q (.ref l) (upd H l (.lst ys)) := fun l hl => q l _ hl (ZaK hl _) upd_same
 rcases hq with hq | hq | ⟨lo, hi, hq, h1, h2, h3, h4, rfl, h5⟩
 ·exact Zdj pins s σ H [.ref p] us Q I r ⟨p, ys, rfl, .inl hq, old⟩
 ·exact Zdj pins s σ H [.ref p] us Q I r ⟨p, ys, rfl, .inr hq, old⟩
 ·obtain ⟨u, rfl, rx⟩ := Zcc r
  cases rx
  obtain ⟨t, u, v, hr⟩ := I.hok p _ hq
  have hn : Builtin.Range.rangeSize lo hi 1 = ((hi - lo).toNat : Int) := by rw [rangeSize_one]; split <;> omega
  refine call_list_range (I.ok.hd hc) hr (small_one h1 h2 h3 h4) hn (by omega) fun h' tk acc' c' kk hl ⟨hs, hacc⟩ => ?_
  have hf : H s.heap.objs.size = none := I.hok.fresh (Nat.le_refl _)
  refine ⟨.ref s.heap.objs.size, _, I.laid kk (Nat.le_refl _) (show ObjOk X.prog X.w _ h' _ (.lst (rngL lo hi)) from ⟨?_, acc'.toList, c', ZdQ ?_ fun i x u e1 e2 => ?_, by simpa using hl⟩), rfl, old _ hf⟩
  ·rw [ZeH]; exact Nat.le_trans (m := 1000000) (by omega) (by decide)
  ·rw [ZeH]; simpa using hs.symm
  ·have hi : i < (hi - lo).toNat := by rw [← ZeH]; exact (List.getElem?_eq_some_iff.mp e1).1
   rw [Zkw hi] at e1
   cases e1
   obtain ⟨t, rfl⟩ := hacc i u (by simpa using e2)
   exact ⟨t, by rw [Int.mul_one]⟩
end
end My
namespace My
open PySem PySem.Spec L2
open PyProof.Rows hiding St
def Zi6 (X : Cx) (N : List Str) (sc : Scope) (cl : List (Str × Addr)) (fn : Str → Bool) (s : Shared) (H : Hp) (fp : List Addr) : Cx where
 prog := X.prog
 w := X.w
 K := X.K
 mg := X.mg
 base := X.base
 A := X.A
 N := N
 s₀ := s
 H₀ := H
 env := compEnvC sc cl s.heap.objs.size X.env
 outer := X.stack
 stack := X.stack
 ex := fp
 calm := X.calm
 fn := fn
 pn := []
 xe := fun _ _ => False
abbrev blk (X : Cx) (N : List Str) (sc : Scope) (cl : List (Str × Addr)) (s : Shared) (H : Hp) (fp : List Addr) : Cx := Zi6 X N sc cl (fun _ => false) s H fp
def ZbK (σ : St) (caps : List Nat) : St := caps.map fun i => (σ[i]?).join
structure Blk (X : Cx) (ts : List Str) (caps : List Nat) (cs : List Str) (sc : Scope) (cl : List (Str × Addr)) : Prop where
 clos : closureFor sc X.env = pure cl
 kind : sc.kind = .function
 cell : ∀ x ∈ sc.names, x.2 ≠ .cell
 loc : ∀ x ∈ sc.names, x.2 = .local → sc.names.lookup x.1 = some .local
 sub : ∀ x c, cl.lookup x = some c → X.env.cells.lookup x = some c
 has : ∀ x, ((relabel sc X.env).names.lookup x = some .cell ∨ (relabel sc X.env).names.lookup x = some .free) → ∃ c, cl.lookup x = some c
 len : caps.length = cs.length
 cap : ∀ (k : Nat) i x, caps[k]? = some i → cs[k]? = some x → X.N[i]? = some x ∧ (X.env.kindOf x = some .cell ∨ X.env.kindOf x = some .free)
 capK : ∀ x ∈ cs, (relabel sc X.env).names.lookup x = some .cell ∨ (relabel sc X.env).names.lookup x = some .free
section
variable {X : Cx} {pins : List (Addr × Obj)} {σ : St} {H : Hp} {s : Shared} {ts cs : List Str} {caps : List Nat} {sc : Scope} {cl : List (Str × Addr)} {fp : List Addr}
theorem blk_ok (B : Blk X ts caps cs sc cl) (I : Inv X pins σ H s) (hf : ∀ b ∈ fp, Zdk X pins H b) (hlt : ∀ b ∈ fp, b < s.heap.objs.size) : (blk X (ts ++ cs) sc cl s H fp).Ok where
 mod := I.ok.mod
 kind := B.kind
 glob := I.ok.glob
 blt := I.ok.blt
 above := Nat.le_refl _
 inj := fun x y c h1 h2 => I.ok.inj x y c (B.sub x c h1) (B.sub y c h2)
 has := fun x h => B.has x h
 cab := fun x c h _ => by cases h
 hd := I.ok.hd
 frames := I.ok.frames
 stk := .inl rfl
 exf := fun b hb => ⟨Nat.ne_of_lt (hlt b hb), fun x c h => (hf b hb).2.2.2.2.1 x c (B.sub x c h)⟩
 bs := I.bs
 bsz := Nat.le_trans I.ok.bsz I.sz
 noex := fun b o e hb => by
  rcases (hf b hb).2.2.2.1 with z | z
  ·exact I.ok.noex b o e z
  ·exact Nat.lt_irrefl _ (Nat.lt_of_lt_of_le (Heap.lt_size (I.ok.bs b o e).1) z)
 exfs := fun b hb z => by
  rcases List.mem_cons.mp (I.stkSub b z) with e | e
  ·exact (hf b hb).2.1 e
  ·exact (hf b hb).2.2.1 e
 funs := I.stack
 frf := I.stkFree
theorem blk_inv (B : Blk X ts caps cs sc cl) (I : Inv X pins σ H s) (hf : ∀ b ∈ fp, Zdk X pins H b) (hlt : ∀ b ∈ fp, b < s.heap.objs.size) {h₁ : Heap} {t' : Nat} (hn : h₁.Ns s.heap.objs.size fun _ => none) (kk : ∀ b o, s.heap.get? b = some o → h₁.get? b = some o) :
  Inv (blk X (ts ++ cs) sc cl s H fp) [] (List.replicate ts.length none ++ ZbK σ caps) H { s with heap := h₁, toks := t' } := by
 have hfr : H s.heap.objs.size = none := I.hok.fresh (Nat.le_refl _)
 refine ⟨blk_ok B I hf hlt, rfl, I.bare, Un.kept kk, ⟨_, hn, fun i x v h1 h2 h3 => ?_⟩, fun x c e => ?_, hfr, fun x c e => I.freeC x c (B.sub x c e), fun p hp => absurd (show p ∈ ([] : List (Addr × Obj)) from hp) (by simp), I.hok.kept kk, ?_⟩
 ·have hi : ¬ i < ts.length := fun hi => by
   rw [List.getElem?_append_left (by simpa using hi), List.getElem?_replicate, if_pos hi] at h2
   cases h2
  have h1' : (ts ++ cs)[i]? = some x := h1
  rw [List.getElem?_append_right (by omega)] at h1'
  rw [List.getElem?_append_right (by simp; omega), List.length_replicate] at h2
  unfold ZbK at h2
  rw [List.getElem?_map] at h2
  cases e : caps[i - ts.length]? with
  | none => rw [e] at h2; cases h2
  | some j =>
   rw [e] at h2
   have h2' : (σ[j]?).join = some v := by simpa using h2
   have h2'' : σ[j]? = some (some v) := by
    cases q : σ[j]? with
    | none => rw [q] at h2'; cases h2'
    | some o => rw [q] at h2'; cases h2'; rfl
   obtain ⟨hN, hk⟩ := B.cap _ _ _ e h1'
   obtain ⟨m, hm, hl⟩ := I.loc
   obtain ⟨u, r, l⟩ := hl j x v hN h2'' (.inr hk)
   refine ⟨u, r, ?_⟩
   rcases l with ⟨l, _⟩ | ⟨_, c, hc, ⟨o, ho, hd⟩⟩
   ·rcases hk with z | z <;> (rw [z] at l; cases l)
   ·have ck := B.capK x (List.mem_of_getElem? h1')
    obtain ⟨c', hc'⟩ := B.has x ck
    have := B.sub x c' hc'
    rw [hc] at this
    cases this
    exact .inr ⟨ck, c, hc', o, kk c o ho, hd⟩
 ·obtain ⟨v, o, ho, hd⟩ := I.cell x c (B.sub x c e)
  exact ⟨v, o, kk c o ho, hd⟩
 ·show (List.replicate ts.length (none : Option V) ++ ZbK σ caps).length = (ts ++ cs).length
  rw [List.length_append, List.length_append, List.length_replicate]
  unfold ZbK
  rw [List.length_map, B.len]
def Zju (ifs : List Expr) (env : Env) : Sem Bool := forIn ifs true fun c r => if r = true then do let ok ← isTrue c env (eval c env); pure (ForInStep.yield ok) else pure (ForInStep.yield r)
def PTs (X : Cx) (ifs : List Expr) (t : TT) : Prop :=
 ∀ (pins : List (Addr × Obj)) (s : Shared) (σ : St) (H : Hp) (Q : Bool → Hp → Prop), Inv X pins σ H s → t σ H Q → wpAny (model X.prog X.w) X.A (Zju ifs X.env) (TP X pins σ Q) X.xe s
def tYes : TT := fun _ H Q => Q true H
theorem Ziq : PTs X [] tYes := fun _ _ _ H _ I h => wpAny_tests_nil ⟨H, I, h⟩
theorem pts_one {c : Expr} {t : TT} (h : PT X c t) : PTs X [c] t := fun pins s σ H Q I hq => wpAny_tests_one (h pins s σ H Q I hq)
theorem ZjA {prog : Program} {w : World} {A : Around} {R : Result → Shared → Prop} {s : Shared} {elt target iter : Expr} {ifs : List Expr} {scope : Scope} {pos : Pos} {it acc : Value} {env : Env} (I : Nat → Shared → Prop)
  (turn : ∀ n s, I n s → wpAny (model prog w) A (pyNext it) (fun r s₁ => match r with
   | none => R (.ok .next) s₁
   | some v => wpAny (model prog w) A (letOwnedTupleGo target it v) (fun _ s₁' => wpAny (model prog w) A (assign target env v) (fun _ s₂ => wpAny (model prog w) A (Zju ifs env) (fun ok s₃ =>
     if ok = true then wpAny (model prog w) A (eval elt env) (fun x s₄ =>
      wpAny (model prog w) A (call (.builtin "list.append") [acc, x]) (fun _ s₅ => ∃ m, m < n ∧ I m s₅) (notedBy (model prog w) A env fun e s' => R (.error e) s') s₄) (notedBy (model prog w) A env fun e s' => R (.error e) s') s₃
     else ∃ m, m < n ∧ I m s₃) (notedBy (model prog w) A env fun e s' => R (.error e) s') s₂) (notedBy (model prog w) A env fun e s' => R (.error e) s') s₁') (notedBy (model prog w) A env fun e s' => R (.error e) s') s₁) (notedBy (model prog w) A env fun e s' => R (.error e) s') s)
  (n : Nat) (h : I n s) : codeAny (model prog w) A (.compLoop (.ListComp elt [⟨target, iter, ifs, 0⟩] scope pos) 0 it acc env) R s := by
 refine codeAny_loop rfl I (fun n s hI => ?_) n h
 show wpAny _ _ ((compTurn (.ListComp elt [⟨target, iter, ifs, 0⟩] scope pos) 0 it acc env).onRaise (fun x => do noteFrame x env; theTreesLotGoes x)) _ _ s
 refine wpAny_noted ?_
 rw [compTurn_list]
 refine wpAny_bind (wpAny_standAt (wpAny_bind (wpAny_mono (turn n s hI) (fun r s₁ h₁ => ?_) fun _ _ h' => h')))
 cases r with
 | none => exact wpAny_pure h₁
 | some v =>
  refine wpAny_bind (wpAny_mono h₁ (fun _ s₁' h₁' => ?_) fun _ _ h' => h')
  refine wpAny_bind (wpAny_mono h₁' (fun _ s₂ h₂ => wpAny_bind (wpAny_mono h₂ (fun ok s₃ h₃ => ?_) fun _ _ h' => h')) fun _ _ h' => h')
  cases ok with
  | false => exact wpAny_pure ⟨rfl, h₃⟩
  | true => exact wpAny_bind (wpAny_bind (wpAny_mono h₃ (fun x s₄ h₄ => wpAny_bind (wpAny_mono h₄ (fun _ s₅ h₅ => wpAny_pure (wpAny_pure ⟨rfl, h₅⟩)) fun _ _ h' => h')) fun _ _ h' => h'))
def ZfN (nt : Nat) (cp : St) (J : It) (g : TG) (tt : TT) (te : TE) (H1 : Hp) (Q : VK) : Prop := ∀ acc H2, H1 acc = none → Same H1 H2 → H2 acc = some (.lst []) →
 ∃ W : Nat → Nat → List V → Hp → Prop, (∃ m, W 0 m [] H2) ∧ ∀ i m ys H, W i m ys H → H acc = some (.lst ys) ∧ ((J.stop i H ∧ Q (.ref acc) H) ∨ (J.go i H ∧ ys.length < 1000000 ∧ ∃ N : List V → Hp → Prop, (∀ ys' H', N ys' H' → ∃ m', m' < m ∧ W (i + 1) m' ys' H') ∧
  ∀ os x H', os.length = nt → J.yld i H x H' → g x (os ++ cp) H' fun τ H3 => ∃ os', os'.length = nt ∧ τ = os' ++ cp ∧ tt τ H3 fun b H4 => if b = true then te τ H4 fun v H5 => H5 acc = some (.lst ys) ∧ N (ys ++ [v]) (upd H5 acc (.lst (ys ++ [v]))) else N ys H4))
def Zko (nt : Nat) (cp : St) (J : It) (g : TG) (te : TE) (H1 : Hp) (Q : VK) : Prop := ZfN nt cp J g tYes te H1 Q
def Zdi (nt : Nat) (caps : List Nat) (wi : TI) (g : TG) (tt : TT) (te : TE) : TE := fun σ H Q => wi σ H fun J H1 => ZfN nt (ZbK σ caps) J g tt te H1 Q
def Zc8 (nt : Nat) (caps : List Nat) (wi : TI) (g : TG) (te : TE) : TE := fun σ H Q => wi σ H fun J H1 => Zko nt (ZbK σ caps) J g te H1 Q
def Zf1 (X : Cx) (pins : List (Addr × Obj)) (σ : St) (Q : VK) (acc : Value) (C : Addr) (r : Result) (s' : Shared) : Prop :=
 r = .ok .next ∧ ∃ a H', acc = .ref a ∧ Inv X pins σ H' s' ∧ Zdk X pins H' C ∧ (∃ m, s'.heap.Ns C m) ∧ Q (.ref a) H'
theorem blk_key {elt target iter : Expr} {ifs : List Expr} {pos : Pos} {g : TG} {tt : TT} {te : TE} {it acc : Addr} {tn : Nat → Heap → Prop} {J : It} {Q : VK} {cells : List (Str × Addr)} {fn : Str → Bool} {s3 s4 : Shared} {H3 : Hp} {W : Nat → Nat → List V → Hp → Prop} {m0 : Nat} (hc : X.calm = true)
  (hg : PG (Zi6 X (ts ++ cs) sc cells fn s3 H3 fp) target g) (ht : PTs (Zi6 X (ts ++ cs) sc cells fn s3 H3 fp) ifs tt) (he : PE (Zi6 X (ts ++ cs) sc cells fn s3 H3 fp) elt te) (ok : (Zi6 X (ts ++ cs) sc cells fn s3 H3 fp).Ok)
  (I3 : Inv X pins σ H3 s3) (f3 : ∀ b ∈ fp, Zdk X pins H3 b) (hlt3 : ∀ b ∈ fp, b < s3.heap.objs.size) (T : Turn X.prog X.w X.K target J fp it tn) (J4 : Inv (Zi6 X (ts ++ cs) sc cells fn s3 H3 fp) [] (List.replicate ts.length none ++ ZbK σ caps) H3 s4) (st4 : tn 0 s4.heap) (w0 : W 0 m0 [] H3)
  (step : ∀ i m ys H, W i m ys H → H acc = some (.lst ys) ∧ ((J.stop i H ∧ Q (.ref acc) H) ∨ (J.go i H ∧ ys.length < 1000000 ∧ ∃ N : List V → Hp → Prop, (∀ ys' H', N ys' H' → ∃ m', m' < m ∧ W (i + 1) m' ys' H') ∧
   ∀ os x H', os.length = ts.length → J.yld i H x H' → g x (os ++ ZbK σ caps) H' fun τ H3 => ∃ os', os'.length = ts.length ∧ τ = os' ++ ZbK σ caps ∧ tt τ H3 fun b H4 => if b = true then te τ H4 fun v H5 => H5 acc = some (.lst ys) ∧ N (ys ++ [v]) (upd H5 acc (.lst (ys ++ [v]))) else N ys H4))) :
  codeAny (model X.prog X.w) X.A (.compLoop (.ListComp elt [⟨target, iter, ifs, 0⟩] sc pos) 0 (.ref it) (.ref acc) (compEnvC sc cells s3.heap.objs.size X.env)) (Zf1 X pins σ Q (.ref acc) s3.heap.objs.size) s4 := by
 have stat : ∀ {H' : Hp}, (∀ b ∈ fp, H' b = none) → ∀ b ∈ fp, Zdk (Zi6 X (ts ++ cs) sc cells fn s3 H3 fp) [] H' b := fun hn b hb =>
  ⟨hn b hb, Nat.ne_of_lt (hlt3 b hb), ok.exfs b hb, .inl hb, ok.exf b hb |>.2, fun p hp => absurd (show p ∈ ([] : List (Addr × Obj)) from hp) (by simp)⟩
 refine ZjA (fun n s' => ∃ i os ys H', os.length = ts.length ∧ Inv (Zi6 X (ts ++ cs) sc cells fn s3 H3 fp) [] (os ++ ZbK σ caps) H' s' ∧ tn i s'.heap ∧ (∀ b ∈ fp, H' b = none) ∧ W i n ys H') ?_ m0
  ⟨0, List.replicate ts.length none, [], _, by simp, J4, st4, fun b hb => (f3 b hb).1, w0⟩
 rintro n s5 ⟨i, os, ys, H5, ol, J5, st5, fr5, w5⟩
 obtain ⟨ha, hcase⟩ := step i n ys H5 w5
 rcases hcase with ⟨stop, q⟩ | ⟨go, hys, N, hN, turn⟩
 ·refine thn (T.done (Zi6 X (ts ++ cs) sc cells fn s3 H3 fp) rfl rfl rfl hc i [] s5 _ H5 _ J5 (stat fr5) st5 stop) fun r s6 ⟨hr, J6⟩ => ?_
  subst hr
  have hf6 : H5 s3.heap.objs.size = none := J6.free
  obtain ⟨m6, hm6, _⟩ := J6.loc
  exact ⟨rfl, _, H5, rfl, I3.call' (J6.os) J6.base J6.hok J6.bare (fun b hb => ⟨(f3 b hb).2.2.2.1, (f3 b hb).2.1, (f3 b hb).2.2.2.2.1, (f3 b hb).2.2.2.2.2⟩), I3.fpOk (Nat.le_refl _) hf6, ⟨m6, hm6⟩, q⟩
 ·refine thn (T.item (Zi6 X (ts ++ cs) sc cells fn s3 H3 fp) rfl rfl rfl hc i [] s5 _ H5 _ J5 (stat fr5) st5 go) fun r s6 ⟨u, hr, h6⟩ => ?_
  subst hr
  refine thn h6 fun _ s7 ⟨x, H7, J7, r7, y7, st7, fr7⟩ => ?_
  have J7' := J7.pinned (stat fr7) (T.obj _ _ st7)
  refine wpAny_mono (hg _ s7 _ H7 x u _ J7' r7 (turn os x H7 ol y7)) (fun _ s8 ⟨σ8, H8, J8, os', ol', e8, q8⟩ => ?_) fun _ _ z => z.elim
  subst e8
  refine wpAny_mono (ht _ s8 _ H8 _ J8 q8) (fun b s8' ⟨H8', J8', q8'⟩ => ?_) fun _ _ z => z.elim
  cases b with
  | false =>
   rw [if_neg (by decide)] at q8' ⊢
   obtain ⟨m', hm', w9⟩ := hN _ _ q8'
   refine ⟨m', hm', i + 1, os', ys, _, ol', J8'.unpinned, T.keep _ _ _ st7 fun b hb o e => (J8'.pin (b, o) (List.mem_append_right _ (List.mem_append_right _ (ZbE hb e)))).1, fun b hb => ?_, w9⟩
   obtain ⟨o, e, d⟩ := T.obj _ _ st7 b hb
   exact (J8'.pin (b, o) (List.mem_append_right _ (List.mem_append_right _ (ZbE hb e)))).2.1
  | true =>
   rw [if_pos rfl] at q8' ⊢
   refine wpAny_mono (he _ s8' _ H8' _ J8' q8') (fun v s9 ⟨v9, H9, J9, r9, ha9, n9⟩ => ?_) fun _ _ z => z.elim
   refine wpAny_mono (Zfh (X := Zi6 X (ts ++ cs) sc cells fn s3 H3 fp) _ s9 _ H9 (.ref acc) [v9] (.ref acc) [v] (fun _ H' => H' = upd H9 acc (.lst (ys ++ [v9]))) J9 rfl (.cons r9 .nil) ⟨_, ys, v9, rfl, rfl, ha9, mill hys, rfl⟩) (fun _ s10 ⟨_, H10, J10, _, e10⟩ => ?_) fun _ _ z => z.elim
   subst e10
   obtain ⟨m', hm', w9⟩ := hN _ _ n9
   refine ⟨m', hm', i + 1, os', ys ++ [v9], _, ol', J10.unpinned, T.keep _ _ _ st7 fun b hb o e => (J10.pin (b, o) (List.mem_append_right _ (List.mem_append_right _ (ZbE hb e)))).1, fun b hb => ?_, w9⟩
   obtain ⟨o, e, d⟩ := T.obj _ _ st7 b hb
   exact (J10.pin (b, o) (List.mem_append_right _ (List.mem_append_right _ (ZbE hb e)))).2.1
theorem ZjI {elt target iter : Expr} {ifs : List Expr} {pos : Pos} {g : TG} {tt : TT} {te : TE} {it : Addr} {tn : Nat → Heap → Prop} {J : It} {Q : VK} {E : Value → Shared → Prop} (B : Blk X ts caps cs sc cl) (hc : X.calm = true)
  (hg : ∀ s H fp, PG (blk X (ts ++ cs) sc cl s H fp) target g) (ht : ∀ s H fp, PTs (blk X (ts ++ cs) sc cl s H fp) ifs tt) (he : ∀ s H fp, PE (blk X (ts ++ cs) sc cl s H fp) elt te)
  (I2 : Inv X pins σ H s) (T : Turn X.prog X.w X.K target J fp it tn) (st2 : tn 0 s.heap) (f2 : ∀ b ∈ fp, Zdk X pins H b) (h : ZfN ts.length (ZbK σ caps) J g tt te H Q) :
  wpAny (model X.prog X.w) X.A (newList []) (fun acc s₃ => wpAny (model X.prog X.w) X.A (newFunctionEnv sc X.env.globals cl [] X.env.qual none .none (some X.env)) (fun cenv s₄ =>
   codeAny (model X.prog X.w) X.A (.compStart (.ListComp elt [⟨target, iter, ifs, 0⟩] sc pos) 0 (.ref it) acc { cenv with scope := relabel sc X.env }) (Zf1 X pins σ Q acc cenv.locals) s₄) E s₃) E s := by
 refine wpAny_newObj_type (wpAny_newFunctionEnv B.cell (by intro y hy; simp at hy) (fun h₁ hns₁ hsb₁ => ?_) B.kind)
 dsimp only at hns₁ hsb₁ ⊢
 have hnew : H s.heap.objs.size = none := I2.hok.fresh (Nat.le_refl _)
 have I3 : Inv X pins σ (upd H s.heap.objs.size (.lst [])) { s with heap := s.heap.push { cls := .type "list", dict := none, data := .seq ([] : List Value).toArray } } :=
  I2.laid (t' := s.toks) (fun b u e => Heap.get?_push_of_some _ e) (Nat.le_refl _) ⟨Nat.zero_le _, [], 0, .nil, Heap.get?_push_size _ rfl⟩
 obtain ⟨W, ⟨m0, w0⟩, step⟩ := h s.heap.objs.size _ hnew (ZaK hnew _) upd_same
 have old2 : ∀ b o, s.heap.get? b = some o → (s.heap.push { cls := .type "list", dict := none, data := .seq ([] : List Value).toArray }).get? b = some o := fun b o e => Heap.get?_push_of_some _ e
 generalize hs3 : ({ s with heap := s.heap.push { cls := .type "list", dict := none, data := .seq ([] : List Value).toArray } } : Shared) = s3 at I3
 have hh : s.heap.push { cls := .type "list", dict := none, data := .seq ([] : List Value).toArray } = s3.heap := by rw [← hs3]
 rw [hh] at hns₁ hsb₁ old2
 have fpO : ∀ b ∈ fp, ∃ o, s.heap.get? b = some o := fun b hb => let ⟨o, e, _⟩ := T.obj 0 _ st2 b hb; ⟨o, e⟩
 have f3 : ∀ b ∈ fp, Zdk X pins (upd H s.heap.objs.size (.lst [])) b := fun b hb => ⟨by
  obtain ⟨o, e⟩ := fpO b hb
  rw [Zae (Nat.ne_of_lt (Heap.lt_size e))]; exact (f2 b hb).1, (f2 b hb).2⟩
 have hlt3 : ∀ b ∈ fp, b < s3.heap.objs.size := fun b hb => let ⟨o, e⟩ := fpO b hb; Heap.lt_size (old2 b o e)
 have kk : ∀ b o, s3.heap.get? b = some o → h₁.get? b = some o := fun b o e => hsb₁.extBut b o (Nat.ne_of_lt (Heap.lt_size e)) (Heap.get?_push_of_some _ e)
 have J4 := blk_inv (t' := s.toks + ([] : List (Str × Value)).length) B I3 f3 hlt3 (h₁ := h₁) hns₁ kk
 have st4 : tn 0 h₁ := T.keep _ _ _ st2 fun b hb o e => kk b o (old2 b o e)
 have key : ∀ s4 : Shared, s4 = { s3 with heap := h₁, toks := s.toks + ([] : List (Str × Value)).length } →
   codeAny (model X.prog X.w) X.A (.compLoop (.ListComp elt [⟨target, iter, ifs, 0⟩] sc pos) 0 (.ref it) (.ref s.heap.objs.size) (compEnvC sc cl s3.heap.objs.size X.env)) (Zf1 X pins σ Q (.ref s.heap.objs.size) s3.heap.objs.size) s4 := by
  rintro s4 rfl
  exact blk_key hc (hg _ _ _) (ht _ _ _) (he _ _ _) (blk_ok B I3 f3 hlt3) I3 f3 hlt3 T J4 st4 w0 step
 have key2 := key { s with heap := h₁, toks := s.toks + ([] : List (Str × Value)).length } (by rw [← hs3])
 rw [hh]
 exact codeAny_compStart_list key2 (T.self _ 0 _ _ _ st4 key2)
theorem Zg1 {elt target iter : Expr} {ifs : List Expr} {pos : Pos} {wi : TI} {g : TG} {tt : TT} {te : TE} (B : Blk X ts caps cs sc cl) (hi : PI X target iter wi)
  (hg : ∀ s H fp, PG (blk X (ts ++ cs) sc cl s H fp) target g) (ht : ∀ s H fp, PTs (blk X (ts ++ cs) sc cl s H fp) ifs tt) (he : ∀ s H fp, PE (blk X (ts ++ cs) sc cl s H fp) elt te) (hc : X.calm = true := by rfl) (hs : ∀ x, foldedSetIterable iter X.env x = pure x := by intro _; rfl) :
  PE X (.ListComp elt [⟨target, iter, ifs, 0⟩] sc pos) (Zdi ts.length caps wi g tt te) := by
 intro pins s σ H Q I h
 rw [eval_ListComp]
 refine wpAny_comprehension_free (use := none) rfl hs B.clos B.kind B.loc (thn (hi pins s σ H _ I h) fun v s1 h1 => thn h1 fun itv s2 h2 => ?_)
 obtain ⟨it, fp, tn, J, H2, e, I2, T, st2, f2, hq⟩ := h2
 subst e
 refine thn (ZjI B hc hg ht he I2 T st2 f2 hq) fun acc s3 h3 => thn h3 fun cenv s4 h4 => codeAny_mono h4 fun r s' hp => ?_
 obtain ⟨rfl, a, H', rfl, I', fC, ⟨m, hm⟩, q⟩ := hp
 exact ⟨m, hm, fun h' sb => ⟨.ref a, H', I'.turned (t' := s'.toks) (fun b o hb e => sb.extBut b o hb e) fC.1 fC.2.1 fC.2.2.2.1 fC.2.2.2.2.1 fC.2.2.2.2.2, rfl, q⟩⟩
theorem ZdP {elt target iter : Expr} {ifs : List Expr} {x : Str} {px pos spos : Pos} {wi : TI} {g : TG} {tt : TT} {te : TE} (i : Nat) (B : Blk X ts caps cs sc cl) (hi : PI X target iter wi)
  (hg : ∀ s H fp, PG (blk X (ts ++ cs) sc cl s H fp) target g) (ht : ∀ s H fp, PTs (blk X (ts ++ cs) sc cl s H fp) ifs tt) (he : ∀ s H fp, PE (blk X (ts ++ cs) sc cl s H fp) elt te) (hx : PG X (.Name x px) (Zcu i))
  (hsw : swapsWith (.ListComp elt [⟨target, iter, ifs, 0⟩] sc pos) (some (.Name x px)) spos.line X.env = pure true) (hc : X.calm = true := by rfl) (hs : ∀ x, foldedSetIterable iter X.env x = pure x := by intro _; rfl) :
  PS X (.Assign [.Name x px] (.ListComp elt [⟨target, iter, ifs, 0⟩] sc pos) spos) (Zj9 (Zdi ts.length caps wi g tt te) (Zcu i)) := by
 intro pins s σ H D I h
 rw [exec_Assign_Name_used _ _ _ _ hsw]
 refine wpAny_bind (wpAny_standAt (wpAny_bind ?_))
 show wpAny _ X.A (do let _ ← comprehension (.ListComp elt [⟨target, iter, ifs, 0⟩] sc pos) sc X.env _ (newList []) false (eval iter X.env) (some (assign (.Name x px) X.env))) _ _ s
 refine wpAny_bind (wpAny_mono (wpAny_comprehension_free (use := some (assign (.Name x px) X.env)) (Q := fun _ s' => SP X pins D .next s') rfl hs B.clos B.kind B.loc
  (thn (hi pins s σ H _ I h) fun v s1 h1 => thn h1 fun itv s2 h2 => ?_)) (fun _ s' hq => wpAny_pure (wpAny_pure hq)) fun _ _ e => e)
 obtain ⟨it, fp, tn, J, H2, e, I2, T, st2, f2, hq⟩ := h2
 subst e
 refine thn (ZjI B hc hg ht he I2 T st2 f2 hq) fun acc s3 h3 => thn h3 fun cenv s4 h4 => codeAny_mono h4 fun r s' hp => ?_
 obtain ⟨rfl, a, H', rfl, I', fC, ⟨m, hm⟩, q⟩ := hp
 obtain ⟨oC, esC, epC, hoC, hdC, rC⟩ := id hm
 have Ip : Inv X (pins ++ [(cenv.locals, oC)]) σ H' s' := I'.pins_of fun p hp => by
  rcases List.mem_append.mp hp with z | z
  ·exact I'.pin p (List.mem_append_right _ z)
  ·have z : p = (cenv.locals, oC) := by simpa using z
   subst z
   exact ⟨hoC, fC.1, fC.2.1, fC.2.2.1, fun v z => by rw [show oC.data = _ from hdC] at z; cases z⟩
 refine thn (hx _ s' σ H' (.ref a) (.ref a) _ Ip rfl q) fun _ s5 ⟨σ5, H5, I5, q5⟩ => ?_
 have pC := I5.pin (cenv.locals, oC) (List.mem_append_right _ (List.mem_append_right _ (by simp)))
 refine ⟨m, ⟨oC, esC, epC, pC.1, hdC, rC⟩, fun h' sb => ⟨σ5, H5, I5.unpinned.turned (t' := s5.toks) (fun b o hb e => sb.extBut b o hb e) pC.2.1 fC.2.1 fC.2.2.2.1 fC.2.2.2.2.1 fC.2.2.2.2.2, q5⟩⟩
theorem pe_comp {elt target iter : Expr} {pos : Pos} {wi : TI} {g : TG} {te : TE} (B : Blk X ts caps cs sc cl) (hi : PI X target iter wi)
  (hg : ∀ s H fp, PG (blk X (ts ++ cs) sc cl s H fp) target g) (he : ∀ s H fp, PE (blk X (ts ++ cs) sc cl s H fp) elt te) (hc : X.calm = true := by rfl) (hs : ∀ x, foldedSetIterable iter X.env x = pure x := by intro _; rfl) :
  PE X (.ListComp elt [⟨target, iter, [], 0⟩] sc pos) (Zc8 ts.length caps wi g te) := Zg1 B hi hg (fun _ _ _ => Ziq) he hc hs
theorem Zhj {elt target iter : Expr} {x : Str} {px pos spos : Pos} {wi : TI} {g : TG} {te : TE} (i : Nat) (B : Blk X ts caps cs sc cl) (hi : PI X target iter wi)
  (hg : ∀ s H fp, PG (blk X (ts ++ cs) sc cl s H fp) target g) (he : ∀ s H fp, PE (blk X (ts ++ cs) sc cl s H fp) elt te) (hx : PG X (.Name x px) (Zcu i))
  (hsw : swapsWith (.ListComp elt [⟨target, iter, [], 0⟩] sc pos) (some (.Name x px)) spos.line X.env = pure true) (hc : X.calm = true := by rfl) (hs : ∀ x, foldedSetIterable iter X.env x = pure x := by intro _; rfl) :
  PS X (.Assign [.Name x px] (.ListComp elt [⟨target, iter, [], 0⟩] sc pos) spos) (Zj9 (Zc8 ts.length caps wi g te) (Zcu i)) := ZdP i B hi hg (fun _ _ _ => Ziq) he hx hsw hc hs
end
end My
namespace My
open PySem PySem.Spec L2
open PyProof.Rows hiding St
section
variable {X : Cx} {tg e elt it c d : Expr} {te : TE} {ta : TA} {wi : TI} {g : TG} {pos p : Pos} {ts cs : List Str} {caps : List Nat} {sc : Scope} {cl : List (Str × Addr)}
theorem i_enum {es : List Expr} {x1} {pos' : Pos} (hg : Gl X "enumerate") (hm : X.mg "enumerate" = none) (ha : QA X [c] ta) (hp : Zao c = true := by rfl) : QI X (.Tuple es x1 pos') (.Call (.Name "enumerate" p) [c] [] pos) (iEnum X.K ta) := ⟨pi_enum hg hm ha.h (Zak hp)⟩
theorem q_rng2 (hg : Gl X "range") (hm : X.mg "range" = none) (ha : QA X [c, d] ta) (hp : Zao c = true := by rfl) (hq : Zao d = true := by rfl) : QE X (.Call (.Name "range" p) [c, d] [] pos) (tRng2 ta) := ⟨pe_rng2 hg hm ha.h (by rw [Zak hp, Zak hq]; rfl) (Zak hq)⟩
theorem ZfI (hg : Gl X "list") (hm : X.mg "list" = none) (ha : QA X [c] ta) (hp : Zao c = true := by rfl) (hc : X.calm = true := by rfl) : QE X (.Call (.Name "list" p) [c] [] pos) (tCB (Zhv X.K) ta) := ⟨Zch (ZhP hc) hg hm (by decide +kernel) ha.h (by decide) (by decide) (Zak hp) rfl⟩
theorem q_min (hg : Gl X "min") (hm : X.mg "min" = none) (ha : QA X [c, d] ta) (hp : Zao c = true := by rfl) (hq : Zao d = true := by rfl) (hc : X.calm = true := by rfl) :
  QE X (.Call (.Name "min" p) [c, d] [] pos) (tCB (fun xs H Q => ∃ i j, xs = [.int i, .int j] ∧ Q (.int (if j < i then j else i)) H) ta) := ⟨Zb6 (Zib hc) hg hm (by decide +kernel) ha.h (by decide) (by decide) (Zak hp) (by rw [Zak hq]; rfl)⟩
theorem ZkE {o i : Expr} {to ti : TE} (ho : QE X o to) (hi : QE X i ti) (ha : ∀ v, assign (.Subscript o i pos) X.env v = (do
      let ov ← holding [v] (eval o X.env)
      let iv ← holding [v, ov] (eval i X.env)
      standAt pos
      holding [v, ov, iv] (setItem ov iv v)
      release [v, ov, iv] []) := by intro _; rfl) : QG X (.Subscript o i pos) (gSub to ti Zk1) := ⟨pg_sub ho.h hi.h Zlj ha⟩
theorem blk0 (ts : List Str) (hk : sc.kind = .function := by rfl) (h : (sc.names.all fun x => x.2 != .free && x.2 != .cell && (x.2 != .local || sc.names.lookup x.1 == some .local)) = true := by decide +kernel) : Blk X ts [] [] sc [] := by
 have hh : ∀ x ∈ sc.names, x.2 ≠ .free ∧ x.2 ≠ .cell ∧ (x.2 = .local → sc.names.lookup x.1 = some .local) := fun x hx => by
  have q := List.all_eq_true.mp h x hx
  simp only [Bool.and_eq_true, bne_iff_ne, ne_eq, Bool.or_eq_true, beq_iff_eq] at q
  exact ⟨q.1.1, q.1.2, fun z => q.2.elim (fun y => absurd z y) id⟩
 have rl : relabel sc X.env = sc := by
  unfold relabel
  rw [map_eq_self fun x hx => by
   have q : (x.2 == NameKind.free) = false := by simpa using (hh x hx).1
   obtain ⟨n, k⟩ := x
   simp only at q
   simp [q]]
 refine ⟨closureFor_none fun x hx => (hh x hx).1, hk, fun x hx => (hh x hx).2.1, fun x hx => (hh x hx).2.2, fun x c e => by simp at e, fun x e => ?_, rfl, fun k i x e => by simp at e, fun x e => by simp at e⟩
 rw [rl] at e
 rcases e with e | e
 ·exact absurd rfl (hh _ (PySem.mem_of_lookup e)).2.1
 ·exact absurd rfl (hh _ (PySem.mem_of_lookup e)).1
def ZeT (cells : List (Str × Addr)) : List (Str × NameKind) → List (Str × Addr) → Option (List (Str × Addr))
 | [], acc => some acc
 | (n, k) :: r, acc => if k == .free then (match cells.lookup n with | some c => ZeT cells r ((n, c) :: acc) | none => none) else ZeT cells r acc
theorem ZeF {env : Env} : ∀ {ns : List (Str × NameKind)} {acc cl : List (Str × Addr)}, ZeT env.cells ns acc = some cl →
  (forIn ns acc fun x r => (match x with | (name, kind) => if (kind == NameKind.free) = true then do let c ← PySem.cellOf env name; pure (ForInStep.yield ((name, c) :: r)) else pure (ForInStep.yield r) : Sem (ForInStep (List (Str × Addr))))) = (pure cl : Sem _)
 | [], acc, cl, h => by cases h; rfl
 | (n, k) :: r, acc, cl, h => by
  unfold ZeT at h
  rw [List.forIn_cons]
  dsimp only
  split at h
  ·rename_i hk
   rw [if_pos hk]
   split at h
   ·rename_i c hc
    have e : PySem.cellOf env n = pure c := by unfold PySem.cellOf; rw [hc]
    rw [e]
    exact ZeF h
   ·cases h
  ·rename_i hk
   rw [if_neg hk]
   exact ZeF h
theorem Zdy {cells : List (Str × Addr)} : ∀ {ns : List (Str × NameKind)} {acc cl : List (Str × Addr)}, ZeT cells ns acc = some cl → (∀ p ∈ acc, cells.lookup p.1 = some p.2) → ∀ p ∈ cl, cells.lookup p.1 = some p.2
 | [], acc, cl, h, ha => by cases h; exact ha
 | (n, k) :: r, acc, cl, h, ha => by
  unfold ZeT at h
  split at h
  ·split at h
   ·rename_i c hc
    exact Zdy h fun p hp => by
     rcases List.mem_cons.mp hp with rfl | hp
     ·exact hc
     ·exact ha p hp
   ·cases h
  ·exact Zdy h ha
theorem ZdX {cells : List (Str × Addr)} {x : Str} : ∀ {ns : List (Str × NameKind)} {acc cl : List (Str × Addr)}, ZeT cells ns acc = some cl → ((x, NameKind.free) ∈ ns ∨ ∃ c, (x, c) ∈ acc) → ∃ c, (x, c) ∈ cl
 | [], acc, cl, h, ha => by
  cases h
  rcases ha with z | z
  ·cases z
  ·exact z
 | (n, k) :: r, acc, cl, h, ha => by
  unfold ZeT at h
  split at h
  ·split at h
   ·rename_i c hc
    refine ZdX h ?_
    rcases ha with z | ⟨c', z⟩
    ·rcases List.mem_cons.mp z with e | z
     ·cases e; exact .inr ⟨c, List.mem_cons_self⟩
     ·exact .inl z
    ·exact .inr ⟨c', List.mem_cons_of_mem _ z⟩
   ·cases h
  ·rename_i hk
   refine ZdX h ?_
   rcases ha with z | z
   ·rcases List.mem_cons.mp z with e | z
    ·cases e; exact absurd rfl hk
    ·exact .inl z
   ·exact .inr z
theorem ZcR {x : Str} {c : Addr} : ∀ {l : List (Str × Addr)}, (x, c) ∈ l → ∃ c', l.lookup x = some c'
 | [], h => by cases h
 | (n, d) :: r, h => by
  rw [List.lookup_cons]
  cases e : x == n with
  | true => exact ⟨d, rfl⟩
  | false =>
   rcases List.mem_cons.mp h with z | z
   ·cases z; simp at e
   ·exact ZcR z
theorem ZcU {env : Env} {x : Str} {k : NameKind} (h : (relabel sc env).names.lookup x = some k) : (x, k) ∈ sc.names ∨ (k = .cell ∧ (x, NameKind.free) ∈ sc.names) := by
 have m := PySem.mem_of_lookup h
 unfold relabel at m
 obtain ⟨⟨n, k'⟩, hm, e⟩ := List.mem_map.mp m
 dsimp only at e
 split at e
 ·rename_i hc
  cases e
  simp only [Bool.and_eq_true, beq_iff_eq] at hc
  rw [hc.1.1] at hm
  exact .inr ⟨rfl, hm⟩
 ·cases e
  exact .inl hm
theorem Zcg {env : Env} {x : Str} : ∀ {ns : List (Str × NameKind)}, ns.lookup x = some NameKind.free →
  (ns.map fun (n, k) => if (k == NameKind.free && env.scope.kind == .function && env.kindOf n == some .cell) then (n, NameKind.cell) else (n, k)).lookup x = some .cell ∨
  (ns.map fun (n, k) => if (k == NameKind.free && env.scope.kind == .function && env.kindOf n == some .cell) then (n, NameKind.cell) else (n, k)).lookup x = some .free
 | [], h => by cases h
 | (n, k) :: r, h => by
  rw [List.lookup_cons] at h
  rw [List.map_cons]
  dsimp only
  cases e : x == n with
  | true =>
   rw [e] at h
   cases h
   split <;> simp [List.lookup_cons, e]
  | false =>
   rw [e] at h
   split
   ·simp only [List.lookup_cons, e]; exact Zcg h
   ·simp only [List.lookup_cons, e]; exact Zcg h
theorem Zji (ts : List Str) (caps : List Nat) (cs : List Str) (hcl : ZeT X.env.cells sc.names [] = some cl := by rfl) (hcap : caps.map (fun i => X.N[i]?) = cs.map some := by rfl) (hck : (cs.all fun x => X.env.kindOf x == some .cell || X.env.kindOf x == some .free) = true := by rfl)
  (hcf : cs.map (fun x => sc.names.lookup x) = cs.map (fun _ => some NameKind.free) := by rfl) (hk : sc.kind = .function := by rfl) (h : (sc.names.all fun x => x.2 != .cell && (x.2 != .local || sc.names.lookup x.1 == some .local)) = true := by decide +kernel) : Blk X ts caps cs sc cl := by
 have hh : ∀ x ∈ sc.names, x.2 ≠ .cell ∧ (x.2 = .local → sc.names.lookup x.1 = some .local) := fun x hx => by
  have q := List.all_eq_true.mp h x hx
  simp only [Bool.and_eq_true, bne_iff_ne, ne_eq, Bool.or_eq_true, beq_iff_eq] at q
  exact ⟨q.1, fun z => q.2.elim (fun y => absurd z y) id⟩
 have len : caps.length = cs.length := by have := congrArg List.length hcap; simpa using this
 refine ⟨?_, hk, fun x hx => (hh x hx).1, fun x hx => (hh x hx).2, fun x c e => ?_, fun x e => ?_, len, fun k i x e1 e2 => ?_, fun x hx => ?_⟩
 ·simp only [closureFor]
  rw [ZeF hcl]
  rfl
 ·exact Zdy hcl (fun p hp => by cases hp) _ (PySem.mem_of_lookup e)
 ·have m : (x, NameKind.free) ∈ sc.names := by
   rcases e with e | e
   ·rcases ZcU e with z | ⟨_, z⟩
    ·exact absurd rfl (hh _ z).1
    ·exact z
   ·rcases ZcU e with z | ⟨z, _⟩
    ·exact z
    ·cases z
  obtain ⟨c, hc⟩ := ZdX hcl (.inl m)
  exact ZcR hc
 ·have h1 := congrArg (·[k]?) hcap
  simp only [List.getElem?_map, e1, e2, Option.map_some, Option.some.injEq] at h1
  have h2 := List.all_eq_true.mp hck x (List.mem_of_getElem? e2)
  simp only [Bool.or_eq_true, beq_iff_eq] at h2
  exact ⟨h1, h2⟩
 ·obtain ⟨k, hk'⟩ := List.getElem?_of_mem hx
  have h1 := congrArg (·[k]?) hcf
  simp only [List.getElem?_map, hk', Option.map_some, Option.some.injEq] at h1
  exact Zcg h1
structure QTs (X : Cx) (ifs : List Expr) (t : TT) : Prop where
 h : PTs X ifs t
theorem Zg5 {tt : TT} (h : QT X c tt) : QTs X [c] tt := ⟨pts_one h.h⟩
theorem Zgt {ifs : List Expr} {tt : TT} (B : Blk X ts caps cs sc cl) (hi : QI X tg it wi) (hg : ∀ s H fp, QG (blk X (ts ++ cs) sc cl s H fp) tg g) (ht : ∀ s H fp, QTs (blk X (ts ++ cs) sc cl s H fp) ifs tt) (he : ∀ s H fp, QE (blk X (ts ++ cs) sc cl s H fp) elt te) (hc : X.calm = true := by rfl) (hs : ∀ x, foldedSetIterable it X.env x = pure x := by intro _; rfl) :
  QE X (.ListComp elt [⟨tg, it, ifs, 0⟩] sc pos) (Zdi ts.length caps wi g tt te) := ⟨Zg1 B hi.h (fun s H fp => (hg s H fp).h) (fun s H fp => (ht s H fp).h) (fun s H fp => (he s H fp).h) hc hs⟩
theorem Zht {ifs : List Expr} {tt : TT} {x : Str} {px spos : Pos} (i : Nat) (B : Blk X ts caps cs sc cl) (hi : QI X tg it wi) (hg : ∀ s H fp, QG (blk X (ts ++ cs) sc cl s H fp) tg g) (ht : ∀ s H fp, QTs (blk X (ts ++ cs) sc cl s H fp) ifs tt) (he : ∀ s H fp, QE (blk X (ts ++ cs) sc cl s H fp) elt te) (hx : QG X (.Name x px) (Zcu i))
  (hsw : swapsWith (.ListComp elt [⟨tg, it, ifs, 0⟩] sc pos) (some (.Name x px)) spos.line X.env = pure true := by rfl) (hc : X.calm = true := by rfl) (hs : ∀ x, foldedSetIterable it X.env x = pure x := by intro _; rfl) :
  QS X (.Assign [.Name x px] (.ListComp elt [⟨tg, it, ifs, 0⟩] sc pos) spos) (Zj9 (Zdi ts.length caps wi g tt te) (Zcu i)) := ⟨ZdP i B hi.h (fun s H fp => (hg s H fp).h) (fun s H fp => (ht s H fp).h) (fun s H fp => (he s H fp).h) hx.h hsw hc hs⟩
theorem Zen (B : Blk X ts caps cs sc cl) (hi : QI X tg it wi) (hg : ∀ s H fp, QG (blk X (ts ++ cs) sc cl s H fp) tg g) (he : ∀ s H fp, QE (blk X (ts ++ cs) sc cl s H fp) elt te) (hc : X.calm = true := by rfl) (hs : ∀ x, foldedSetIterable it X.env x = pure x := by intro _; rfl) :
  QE X (.ListComp elt [⟨tg, it, [], 0⟩] sc pos) (Zc8 ts.length caps wi g te) := ⟨pe_comp B hi.h (fun s H fp => (hg s H fp).h) (fun s H fp => (he s H fp).h) hc hs⟩
theorem Zdx {x : Str} {px spos : Pos} (i : Nat) (B : Blk X ts caps cs sc cl) (hi : QI X tg it wi) (hg : ∀ s H fp, QG (blk X (ts ++ cs) sc cl s H fp) tg g) (he : ∀ s H fp, QE (blk X (ts ++ cs) sc cl s H fp) elt te) (hx : QG X (.Name x px) (Zcu i))
  (hsw : swapsWith (.ListComp elt [⟨tg, it, [], 0⟩] sc pos) (some (.Name x px)) spos.line X.env = pure true := by rfl) (hc : X.calm = true := by rfl) (hs : ∀ x, foldedSetIterable it X.env x = pure x := by intro _; rfl) :
  QS X (.Assign [.Name x px] (.ListComp elt [⟨tg, it, [], 0⟩] sc pos) spos) (Zj9 (Zc8 ts.length caps wi g te) (Zcu i)) := ⟨Zhj i B hi.h (fun s H fp => (hg s H fp).h) (fun s H fp => (he s H fp).h) hx.h hsw hc hs⟩
end
section
variable {X : Cx} {a b c e : Expr} {ta tb tc te : TE} {pos : Pos} {st : Stmt}
theorem q_leLt (ha : QE X a ta) (hb : QE X b tb) (hc : QE X c tc) (hm : lastMarks [CmpOp.LtE, CmpOp.Lt] [b, c] = false := by with_unfolding_all rfl) : QE X (.Compare a [.LtE, .Lt] [b, c] pos) (Zg8 (rI0 fun i j => .bl (decide (i ≤ j))) (rI0 fun i j => .bl (decide (i < j))) ta tb tc) := ⟨ZkG op_le op_lt ha.h hb.h hc.h hm⟩
theorem q_gint {x : Str} {i : Int} {tk : Tok} (hg : Gl X x) (hm : X.mg x = some (.int i tk)) (hd : (x == ("__debug__" : Str)) = false := by decide) : QE X (.Name x pos) (tC (.int i)) := ⟨pe_glob hg hm ⟨_, rfl⟩ hd⟩
end
def enumK (K : PySem.W.Frag) (g : TG) (tb : TS) (D : Ends) (σ : St) : List V → Hp → Prop := fun vs H1 => ∃ a, vs = [.ref a] ∧ (∃ xs, SqL K H1 a xs) ∧ ∃ W : Nat → Nat → St → Hp → Prop, (∃ m, W 0 m σ H1) ∧ ∀ i m σ H, W i m σ H →
 ((Ite K a).stop i H ∧ D.nx σ H) ∨ ((Ite K a).go i H ∧ ∃ N : St → Hp → Prop, (∀ σ' H', N σ' H' → ∃ m', m' < m ∧ W (i + 1) m' σ' H') ∧ ∀ x H', (Ite K a).yld i H x H' → g x σ H' fun σ2 H2 => tb { D with nx := N, ct := N, bk := D.nx } σ2 H2)
theorem ZfF {K : PySem.W.Frag} {ta : TA} {g : TG} {tb : TS} {D : Ends} {σ : St} {H : Hp} : ZkS (iEnum K ta) g tb D σ H = ta σ H (enumK K g tb D σ) := rfl
theorem ZgM {K : PySem.W.Frag} {a : Addr} {xs : List V} {g : TG} {tb : TS} {D : Ends} {σ : St} {H : Hp} (Pv : Nat → St → Hp → Prop) (h0 : Pv 0 σ H) (hl : ∀ i σ H, i ≤ xs.length → Pv i σ H → SqL K H a xs)
  (hs : ∀ i x σ H p H', xs[i]? = some x → Pv i σ H → H p = none → Same H H' → H' p = some (.tup [.int i, x]) → g (.ref p) σ H' fun σ2 H2 => tb { D with nx := Pv (i + 1), ct := Pv (i + 1), bk := D.nx } σ2 H2) (hd : ∀ σ H, Pv xs.length σ H → D.nx σ H) :
  enumK K g tb D σ [.ref a] H := by
 refine ⟨a, rfl, ⟨xs, hl 0 σ H (Nat.zero_le _) h0⟩, fun i m σ H => m = xs.length - i ∧ i ≤ xs.length ∧ Pv i σ H, ⟨xs.length, by simp, Nat.zero_le _, h0⟩, ?_⟩
 rintro i m σ H ⟨rfl, hi, p⟩
 have q := hl i σ H hi p
 by_cases hlt : i < xs.length
 ·refine .inr ⟨⟨xs, xs[i], q, by simp [hlt]⟩, Pv (i + 1), fun σ' H' p' => ⟨xs.length - (i + 1), by omega, rfl, hlt, p'⟩, fun x H' y => ?_⟩
  obtain ⟨b, y, rfl, hn, sm, e, hy⟩ := y
  exact hs i y σ H b H' (hy xs q) p hn sm e
 ·have e : i = xs.length := by omega
  subst e
  exact .inl ⟨⟨xs, q, Nat.le_refl _⟩, hd _ _ p⟩
theorem Zg0 {lo : Int} {n nt : Nat} {cp : St} {g : TG} {tt : TT} {te : TE} {H1 : Hp} {Q : VK} (Pv : Addr → Nat → List V → Hp → Prop) (h0 : ∀ acc H2, H1 acc = none → Same H1 H2 → H2 acc = some (.lst []) → Pv acc 0 [] H2)
  (hl : ∀ acc i ys H, Pv acc i ys H → H acc = some (.lst ys) ∧ ys.length < 1000000)
  (hs : ∀ acc i ys H os, H1 acc = none → i < n → Pv acc i ys H → os.length = nt → g (.int (lo + (i : Nat))) (os ++ cp) H fun τ H3 => ∃ os', os'.length = nt ∧ τ = os' ++ cp ∧ tt τ H3 fun b H4 => if b = true then te τ H4 fun v H5 => H5 acc = some (.lst ys) ∧ Pv acc (i + 1) (ys ++ [v]) (upd H5 acc (.lst (ys ++ [v]))) else Pv acc (i + 1) ys H4)
  (hd : ∀ acc ys H, H1 acc = none → Pv acc n ys H → Q (.ref acc) H) : ZfN nt cp (Itr lo n) g tt te H1 Q := by
 intro acc H2 hn sm e
 refine ⟨fun i m ys H => m = n - i ∧ i ≤ n ∧ Pv acc i ys H, ⟨n, by simp, Nat.zero_le _, h0 acc H2 hn sm e⟩, ?_⟩
 rintro i m ys H ⟨rfl, hi, p⟩
 obtain ⟨q1, q2⟩ := hl acc i ys H p
 refine ⟨q1, ?_⟩
 by_cases hlt : i < n
 ·refine .inr ⟨hlt, q2, Pv acc (i + 1), fun ys' H' p' => ⟨n - (i + 1), by omega, rfl, hlt, p'⟩, fun os x H' ol y => ?_⟩
  obtain ⟨rfl, rfl⟩ := y
  exact hs acc i ys _ os hn hlt p ol
 ·have e : i = n := by omega
  subst e
  exact .inl ⟨Nat.le_refl _, hd _ _ _ hn p⟩
theorem Zjj {lo : Int} {n nt : Nat} {cp : St} {g : TG} {te : TE} {H1 : Hp} {Q : VK} (Pv : Addr → Nat → List V → Hp → Prop) (h0 : ∀ acc H2, H1 acc = none → Same H1 H2 → H2 acc = some (.lst []) → Pv acc 0 [] H2)
  (hl : ∀ acc i ys H, Pv acc i ys H → H acc = some (.lst ys) ∧ ys.length < 1000000)
  (hs : ∀ acc i ys H os, H1 acc = none → i < n → Pv acc i ys H → os.length = nt → g (.int (lo + (i : Nat))) (os ++ cp) H fun τ H3 => ∃ os', os'.length = nt ∧ τ = os' ++ cp ∧ te τ H3 fun v H4 => H4 acc = some (.lst ys) ∧ Pv acc (i + 1) (ys ++ [v]) (upd H4 acc (.lst (ys ++ [v]))))
  (hd : ∀ acc ys H, H1 acc = none → Pv acc n ys H → Q (.ref acc) H) : Zko nt cp (Itr lo n) g te H1 Q := by
 refine Zg0 (tt := tYes) Pv h0 hl (fun acc i ys H os a b c d => ?_) hd
 have h := hs acc i ys H os a b c d
 have e : (fun τ H3 => ∃ os', os'.length = nt ∧ τ = os' ++ cp ∧ tYes τ H3 fun b H4 => if b = true then te τ H4 fun v H5 => H5 acc = some (.lst ys) ∧ Pv acc (i + 1) (ys ++ [v]) (upd H5 acc (.lst (ys ++ [v]))) else Pv acc (i + 1) ys H4) =
   (fun τ H3 => ∃ os', os'.length = nt ∧ τ = os' ++ cp ∧ te τ H3 fun v H4 => H4 acc = some (.lst ys) ∧ Pv acc (i + 1) (ys ++ [v]) (upd H4 acc (.lst (ys ++ [v])))) := by
  funext τ H3
  simp only [tYes, if_true]
 rw [e]
 exact h
def rngK (lo : Int) (n : Nat) (g : TG) (tb : TS) (D : Ends) (σ : St) : Hp → Prop := fun H1 => ∃ W : Nat → Nat → St → Hp → Prop, (∃ m, W 0 m σ H1) ∧ ∀ i m σ H, W i m σ H →
 ((Itr lo n).stop i H ∧ D.nx σ H) ∨ ((Itr lo n).go i H ∧ ∃ N : St → Hp → Prop, (∀ σ' H', N σ' H' → ∃ m', m' < m ∧ W (i + 1) m' σ' H') ∧ ∀ x H', (Itr lo n).yld i H x H' → g x σ H' fun σ2 H2 => tb { D with nx := N, ct := N, bk := D.nx } σ2 H2)
theorem ZcV {ta : TA} {g : TG} {tb : TS} {D : Ends} {σ : St} {H : Hp} : ZkS (ZhC ta) g tb D σ H = ta σ H fun vs H1 => ∃ j : Int, vs = [.int j] ∧ -(2 ^ 62) ≤ j ∧ j < 2 ^ 62 ∧ rngK 0 j.toNat g tb D σ H1 := rfl
theorem ZiR {ta : TA} {g : TG} {tb : TS} {D : Ends} {σ : St} {H : Hp} : ZkS (iRng2 ta) g tb D σ H = ta σ H fun vs H1 => ∃ i j : Int, vs = [.int i, .int j] ∧ (-(2 ^ 62) ≤ i ∧ i < 2 ^ 62 ∧ -(2 ^ 62) ≤ j ∧ j < 2 ^ 62) ∧ rngK i (j - i).toNat g tb D σ H1 := rfl
theorem Zd7 {lo : Int} {n : Nat} {g : TG} {tb : TS} {D : Ends} {σ : St} {H : Hp} (Pv : Nat → St → Hp → Prop) (h0 : Pv 0 σ H) (hs : ∀ i σ H, i < n → Pv i σ H → g (.int (lo + (i : Nat))) σ H fun σ2 H2 => tb { D with nx := Pv (i + 1), ct := Pv (i + 1), bk := D.nx } σ2 H2)
  (hd : ∀ σ H, Pv n σ H → D.nx σ H) : rngK lo n g tb D σ H := by
 refine ⟨fun i m σ H => m = n - i ∧ i ≤ n ∧ Pv i σ H, ⟨n, by simp, Nat.zero_le _, h0⟩, ?_⟩
 rintro i m σ H ⟨rfl, hi, p⟩
 by_cases hlt : i < n
 ·refine .inr ⟨hlt, Pv (i + 1), fun σ' H' p' => ⟨n - (i + 1), by omega, rfl, hlt, p'⟩, fun x H' y => ?_⟩
  obtain ⟨rfl, rfl⟩ := y
  exact hs i σ _ hlt p
 ·have e : i = n := by omega
  subst e
  exact .inl ⟨Nat.le_refl _, hd _ _ p⟩
def listK (K : PySem.W.Frag) (g : TG) (tb : TS) (D : Ends) (σ : St) : V → Hp → Prop := fun x H1 => ∃ a, x = .ref a ∧ (∃ xs, SqL K H1 a xs) ∧ ∃ W : Nat → Nat → St → Hp → Prop, (∃ m, W 0 m σ H1) ∧ ∀ i m σ H, W i m σ H →
 ((Itl K a).stop i H ∧ D.nx σ H) ∨ ((Itl K a).go i H ∧ ∃ N : St → Hp → Prop, (∀ σ' H', N σ' H' → ∃ m', m' < m ∧ W (i + 1) m' σ' H') ∧ ∀ x H', (Itl K a).yld i H x H' → g x σ H' fun σ2 H2 => tb { D with nx := N, ct := N, bk := D.nx } σ2 H2)
theorem Za6 {K : PySem.W.Frag} {te : TE} {g : TG} {tb : TS} {D : Ends} {σ : St} {H : Hp} : ZkS (Zeh K te) g tb D σ H = te σ H (listK K g tb D σ) := rfl
theorem Zbl {K : PySem.W.Frag} {a : Addr} {xs : List V} {g : TG} {tb : TS} {D : Ends} {σ : St} {H : Hp} (Pv : Nat → St → Hp → Prop) (h0 : Pv 0 σ H) (hl : ∀ i σ H, i ≤ xs.length → Pv i σ H → SqL K H a xs)
  (hs : ∀ i x σ H, xs[i]? = some x → Pv i σ H → g x σ H fun σ2 H2 => tb { D with nx := Pv (i + 1), ct := Pv (i + 1), bk := D.nx } σ2 H2) (hd : ∀ σ H, Pv xs.length σ H → D.nx σ H) : listK K g tb D σ (.ref a) H :=
 ⟨a, rfl, ⟨xs, hl 0 σ H (Nat.zero_le _) h0⟩, ZgQ Pv h0 hl hs hd⟩
end My
namespace My
open PySem PySem.Spec L2
open PyProof.Rows hiding St
structure Mth (P : Program) (w : World) (K : PySem.W.Frag) (mg : Str → Option Value) (base : Heap) (CX : CXT) (k : Nat) (C : Addr) (m : Str) (ps : List Str) (sp : Sp) : Prop where
 ex : ∃ (f : Addr) (fd : FuncData), FnOk P w K mg base CX k f fd ps sp ∧ Binds K fd ps [] ∧ Meth K C m f ∧ Cls K C
structure Mkr (P : Program) (w : World) (K : PySem.W.Frag) (mg : Str → Option Value) (base : Heap) (CX : CXT) (k : Nat) (C : Addr) (x : Str) (ps : List Str) (sp : Sp) : Prop where
 ex : ∃ (f : Addr) (fd : FuncData), FnOk P w K mg base CX k f fd ps sp ∧ Binds K fd ps [] ∧ Mk K C f ∧ mg x = some (.ref C)
section
variable {X : Cx} {CX : CXT} {j k : Nat} {C : Addr} {x m fl : Str} {ps : List Str} {sp : Sp} {p pos apos : Pos} {e o value : Expr} {es : List Expr} {t : TA} {ta tv : TE} {E : XK}
theorem Zcv {pl : Sem Bool} (F : Mth X.prog X.w X.K X.mg X.base CX0 j C m ps sp) (hr : Room k X.A) (hj : j ≤ k) (ho : QE X o ta) (ha : QA X (e :: es) t) (hp : (e :: es).all Zao = true := by rfl)
  (ht : eval (.Call (.Attribute o m apos) (e :: es) [] pos) X.env = (do
   let ov ← eval o X.env
   standAt apos.atName
   let (f, first) ← holding [ov] (getMethod ov m pl)
   callWith pos f first (backTo pos (starEach (e :: es) X.env)) (backToKw pos (keywordEach [] X.env))) := by rfl) :
  QE X (.Call (.Attribute o m apos) (e :: es) [] pos) (ZhX C m sp [] E0 ta t) := by
 obtain ⟨f, fd, G, b, hm, c⟩ := F.ex
 exact ⟨pe_meth ho.h c hm G (hr.mono hj) b .nil Zia ha.h (Zak (Za8 hp).1) (ZdE (Za8 hp).2) ht⟩
theorem Zjc {pl : Sem Bool} (F : Mth X.prog X.w X.K X.mg X.base CX0 j C m ps sp) (hr : Room k X.A) (hj : j ≤ k) (ho : QE X o ta)
  (ht : eval (.Call (.Attribute o m apos) [] [] pos) X.env = (do
   let ov ← eval o X.env
   standAt apos.atName
   let (f, first) ← holding [ov] (getMethod ov m pl)
   callWith pos f first (backTo pos (starEach [] X.env)) (backToKw pos (keywordEach [] X.env))) := by rfl) :
  QE X (.Call (.Attribute o m apos) [] [] pos) (ZhX C m sp [] E0 ta tNil) := by
 obtain ⟨f, fd, G, b, hm, c⟩ := F.ex
 exact ⟨Zly ho.h c hm G (hr.mono hj) b .nil Zia ht⟩
theorem q_make (F : Mkr X.prog X.w X.K X.mg X.base CX0 j C x ps sp) (hr : Room (k + 1) X.A) (hj : j ≤ k) (hg : Gl X x) (ha : QA X (e :: es) t) (hp : (e :: es).all Zao = true := by rfl) (hdb : (x == ("__debug__" : Str)) = false := by decide) :
  QE X (.Call (.Name x p) (e :: es) [] pos) (Zkm C sp [] E0 t) := by
 obtain ⟨f, fd, G, b, M, hm⟩ := F.ex
 exact ⟨pe_make M (G.mono hj) hr hg hm b .nil Zia ha.h hdb (Zak (Za8 hp).1) (ZdE (Za8 hp).2)⟩
theorem q_fld (ho : QE X e ta) (hb : attributeBase e fl X.env (eval e X.env) = eval e X.env := by rfl) : QE X (.Attribute e fl pos) (tFld X.K ta fl) := ⟨pe_fld ho.h hb⟩
theorem s_fld {pos' : Pos} (ho : QE X o ta) (hv : QE X value tv) (hs : swapsWith value (some (.Attribute o fl pos')) pos.line X.env = pure false := by rfl) : QS X (.Assign [.Attribute o fl pos'] value pos) (sFld X.K ta tv fl) := ⟨ps_fld ho.h hv.h hs⟩
theorem q_fldK (K : PySem.W.Frag) (ho : QE X e ta) (hK : X.K = K := by rfl) (hb : attributeBase e fl X.env (eval e X.env) = eval e X.env := by rfl) : QE X (.Attribute e fl pos) (tFld K ta fl) := by subst hK; exact ⟨pe_fld ho.h hb⟩
theorem Zik (K : PySem.W.Frag) (ha : QE X o ta) (hb : QE X e tv) (hK : X.K = K := by rfl) (hm : behindInMarks .In e = false := by with_unfolding_all rfl) : QT X (.Compare o [.In] [e] pos) (Zdl (tOp (rIn K false) ta tv)) := by subst hK; exact ⟨Zb7 ZiQ ha.h hb.h hm⟩
theorem t_ninLK (K : PySem.W.Frag) (ha : QE X o ta) (hb : QE X e tv) (hK : X.K = K := by rfl) (hm : behindInMarks .NotIn e = false := by with_unfolding_all rfl) : QT X (.Compare o [.NotIn] [e] pos) (Zdl (tOp (rIn K true) ta tv)) := by subst hK; exact ⟨Zb7 Zfz ha.h hb.h hm⟩
def tMethX (C : Addr) (m : Str) (sp : Sp) (ta : TE) (t : TA) : TEX := fun σ H Q EX => ta σ H fun x H1 => ∃ a dx fs, x = .ref a ∧ H1 a = some (.ins C dx fs) ∧ fs.lookup m = none ∧ t σ H1 fun vs H2 => sp (x :: vs) H2 Q EX
end
end My
namespace My
open PySem PySem.Spec L2
open PyProof.Rows hiding St
section
variable {M : Model} {A : Around} {E : Value → Shared → Prop} {s : Shared} {B : Heap} {env : Env} {outer : List Env} {L e : Addr} {cls a0 : Value}
end
section
variable {X : Cx} {E : XK} {pins : List (Addr × Obj)} {σ : St} {H : Hp} {s : Shared}
variable {ts cs : List Str} {caps : List Nat} {sc : Scope} {cl : List (Str × Addr)} {fp : List Addr}
end
section
variable {X : Cx} {E : XK} {j k : Nat} {x : Str} {ps : List Str} {sp : Sp} {p pos : Pos} {e elt tg it : Expr} {es : List Expr} {t : TA} {ts cs : List Str} {caps : List Nat} {sc : Scope} {cl : List (Str × Addr)} {wi : TI} {g : TG} {te : TE}
end
end My
namespace My
open PySem PySem.Spec L2
open PyProof.Rows hiding St
def ZjR (K : PySem.W.Frag) (D : Addr) (th : Addr → TS) (En : Ends) (σ : St) : XK := fun c _ H' => ∃ C, c = .ref C ∧ PySem.W.exmOne K (.ref C) (.ref D) = some true ∧ ∀ ea, th ea { nx := En.nx, rt := En.rt, bk := En.bk, ct := En.ct } σ H'
def tTry0 (K : PySem.W.Frag) (tb : TSX) (D : Addr) (th : Addr → TS) : TS := fun En σ H => tb En (ZjR K D th En) σ H
section
variable {X : Cx} {body : List Stmt} {x : Str} {np hpos pos : Pos} {b₀ : Stmt} {suite : List Stmt} {tb : TSX} {th : Addr → TS} {D : Addr}
end
def tMakeX (C : Addr) (sp : Sp) (t : TA) : TEX := fun σ H Q EX => t σ H fun vs H1 => ∀ x dx, H1 x = none → H1 dx = none → dx ≠ x → sp (.ref x :: vs) (upd (upd H1 dx (.own x)) x (.ins C dx [])) (fun v H2 => v = .non ∧ Q (.ref x) H2) EX
section
variable {X : Cx} {j k : Nat} {C : Addr} {x : Str} {ps : List Str} {sp : Sp} {p pos : Pos} {e : Expr} {es : List Expr} {t : TA}
end
section
variable {X : Cx} {e : Expr} {te : TE} {p1 p2 p3 pos : Pos} {c1 c2 : Str} {k1 k2 : Nat}
def tFs (te : TE) : TE := fun σ H Q => te σ H fun x H1 => ∃ i : Int, x = .int i ∧ i.natAbs < 2 ^ 30 ∧ ∀ z, Q (.str z) H1
end
section
variable {X : Cx} {e : Expr} {t : TA} {p pos : Pos}
end
section
variable {X : Cx} {pins : List (Addr × Obj)} {σ : St} {H : Hp} {s : Shared}
theorem EqD.neAt (I : Inv X pins σ H s) {x y : V} {b : Bool} {n : Nat} (h : EqD H x y b n) : ∀ {A : Around} {u v : Value}, RelV x u → RelV y v → A.units + n < cLine → (∃ a c, x = .ref a ∧ y = .ref c) → SeqAt.RcNeAt A s u v (!b) := by
 induction h with
 | flat fx fy =>
  rintro A u v r1 r2 _ ⟨a, c, rfl, _⟩
  cases fx
 | up h ih =>
  intro A u v r1 r2 hu w
  exact ih r1 r2 (by omega) w
 | @tup a b xs ys e n ha hb h ih =>
  intro A u v r1 r2 hu _
  cases r1
  cases r2
  obtain ⟨its, v1, t1, _⟩ := I.tuple (SqT.of ha)
  obtain ⟨jts, v2, t2, _⟩ := I.tuple (SqT.of hb)
  have z := SeqAt.RcNeAt.tuples (A := A) (s := s) (e := e) t1 t2 (by omega) fun j h1 h2 => by
   have k1 : j < xs.length := by rw [v1.length]; simpa using h1
   have k2 : j < ys.length := by rw [v2.length]; simpa using h2
   obtain ⟨u1, q1, w1⟩ := v1.get (List.getElem?_eq_getElem k1)
   obtain ⟨u2, q2, w2⟩ := v2.get (List.getElem?_eq_getElem k2)
   have g1 : its.toArray[j] = u1 := by
    have := List.getElem?_eq_some_iff.mp q1
    obtain ⟨hh, this⟩ := this
    simpa using this
   have g2 : jts.toArray[j] = u2 := by
    have := List.getElem?_eq_some_iff.mp q2
    obtain ⟨hh, this⟩ := this
    simpa using this
   rw [g1, g2]
   exact ((h j _ _ (List.getElem?_eq_getElem k1) (List.getElem?_eq_getElem k2)).at I w1 w2 (by show A.units + 1 + n < cLine; omega)).1
  simpa [v1.length, v2.length] using z
 | @lst a b xs ys e n ha hb hl h ih =>
  intro A u v r1 r2 hu _
  cases r1
  cases r2
  obtain ⟨its, v1, t1, _⟩ := I.list (SqL.of ha)
  obtain ⟨jts, v2, t2, _⟩ := I.list (SqL.of hb)
  have z := SeqAt.RcNeAt.lists (A := A) (s := s) (e := e) t1.isList t2.isList (by simp [← v1.length, ← v2.length, hl]) (by omega) fun j h1 h2 => by
   have k1 : j < xs.length := by rw [v1.length]; simpa using h1
   have k2 : j < ys.length := by rw [v2.length]; simpa using h2
   obtain ⟨u1, q1, w1⟩ := v1.get (List.getElem?_eq_getElem k1)
   obtain ⟨u2, q2, w2⟩ := v2.get (List.getElem?_eq_getElem k2)
   have g1 : its.toArray[j] = u1 := by
    have := List.getElem?_eq_some_iff.mp q1
    obtain ⟨hh, this⟩ := this
    simpa using this
   have g2 : jts.toArray[j] = u2 := by
    have := List.getElem?_eq_some_iff.mp q2
    obtain ⟨hh, this⟩ := this
    simpa using this
   rw [g1, g2]
   exact ((h j _ _ (List.getElem?_eq_getElem k1) (List.getElem?_eq_getElem k2)).at I w1 w2 (by show A.units + 1 + n < cLine; omega)).1
  simpa [v1.length, v2.length] using z
 | @lstNe a b xs ys n ha hb hl =>
  intro A u v r1 r2 hu _
  cases r1
  cases r2
  obtain ⟨its, v1, t1, _⟩ := I.list (SqL.of ha)
  obtain ⟨jts, v2, t2, _⟩ := I.list (SqL.of hb)
  exact SeqAt.RcNeAt.lists_lengths t1.isList t2.isList (by simp [← v1.length, ← v2.length]; exact hl) (by omega)
end
section
variable {X : Cx} {a b : Expr} {ta tb : TE} {pos : Pos} {k : Nat}
def rNeD : R2 := fun x y H Q => ∃ t n p c, x = .ref p ∧ y = .ref c ∧ EqD H x y t n ∧ n ≤ 60 ∧ Q (.bl (!t)) H
theorem op_neD (hr : Room k X.A) : OpR X (compareOp .NotEq) rNeD := by
 intro pins s σ H x y v u Q I rx ry h
 obtain ⟨t, n, p, c, e1, e2, h, hn, q⟩ := h
 have hu := hr.units
 exact (h.neAt I rx ry (by omega) ⟨p, c, e1, e2⟩) _ _ _ _ ⟨.bl (!t), H, I, rfl, q⟩
theorem t_neD (hr : Room k X.A) (ha : QE X a ta) (hb : QE X b tb) : QT X (.Compare a [.NotEq] [b] pos) (Zdl (tOp rNeD ta tb)) := ⟨Zb7 (op_neD hr) ha.h hb.h (Zca _)⟩
end
end My
namespace My
open PySem PySem.Spec L2
open PyProof.Rows hiding St
section
variable {X : Cx} {o e : Expr} {es : List Expr} {to : TE} {t : TA} {name : Str} {apos cpos : Pos} {id : String} {r : V → List V → Hp → VK → Prop}
def tLm0 (r : V → List V → Hp → VK → Prop) (to : TE) : TE := fun σ H Q => to σ H fun x H1 => r x [] H1 Q
def tLm (r : V → List V → Hp → VK → Prop) (to : TE) (t : TA) : TE := fun σ H Q => to σ H fun x H1 => ∃ l zs, x = .ref l ∧ H1 l = some (.lst zs) ∧ t σ H1 fun vs H2 => r x vs H2 Q
theorem pe_lm0 (slot : Slot "list" name id) (hty : typeOf (.builtin id) = pure (.type "method_descriptor")) (hm : MtM X id r) (hr : ∀ x H Q, r x [] H Q → ∃ l zs, x = .ref l ∧ H l = some (.lst zs)) (ho : PE X o to)
  (hbase : attributeBase o name X.env (eval o X.env) = eval o X.env := by rfl) (hline : (apos.endLine == cpos.line) = true := by rfl) : PE X (.Call (.Attribute o name apos) [] [] cpos) (tLm0 r to) := by
 intro pins s σ H Q I h
 refine wpAny_Call_method0_late hbase hline (thn (ho pins s σ H _ I h) fun v s1 ⟨x, H1, I1, r1, q1⟩ => ?_)
 obtain ⟨l, zs, e1, e2⟩ := hr _ _ _ q1
 obtain ⟨h1, h2⟩ := ZjK (T := "list") I1 r1 (by rw [e1]; exact .inl ⟨rfl, zs, SqL.of e2⟩)
 exact ⟨"list", id, PySem.F.plainAttrs_list, slot, hty, h1, h2, Calls.callWith_builtin rfl (PySem.evalArgs_none (hm pins s1 σ H1 x [] v [] Q I1 r1 .nil q1))⟩
theorem pe_lm (slot : Slot "list" name id) (hty : typeOf (.builtin id) = pure (.type "method_descriptor")) (hm : MtM X id r) (ho : PE X o to) (ha : PA X (e :: es) t)
  (hbase : attributeBase o name X.env (eval o X.env) = eval o X.env := by rfl)
  (hfew : ((backTo cpos (starEach (e :: es) X.env)).all (fun x => !x.1) && (backToKw cpos (keywordEach [] X.env)).all (fun x => x.1.isSome)
   && decide ((e :: es).length + ([] : List Keyword).length + (if ([] : List Keyword).isEmpty then 0 else 1) < 30)) = true := by rfl)
  (hline : (apos.endLine == cpos.line) = true := by rfl) (hs : starEach (e :: es) X.env = (false, eval e X.env) :: starEach es X.env := by rfl) (hplain : (backTo cpos (starEach es X.env)).any (·.1) = false := by rfl) :
  PE X (.Call (.Attribute o name apos) (e :: es) [] cpos) (tLm r to t) := by
 intro pins s σ H Q I h
 refine wpAny_Call_method_late hbase hfew hline rfl (thn (ho pins s σ H _ I h) fun v s1 ⟨x, H1, I1, r1, l, zs, e1, e2, q1⟩ => ?_)
 obtain ⟨h1, h2⟩ := ZjK (T := "list") I1 r1 (by rw [e1]; exact .inl ⟨rfl, zs, SqL.of e2⟩)
 refine ⟨"list", id, PySem.F.plainAttrs_list, slot, hty, h1, h2, ?_⟩
 have hA := ha cpos pins s1 σ H1 _ I1 q1
 rw [hs] at hA ⊢
 refine Calls.callWith_builtin (by show (false || (backTo cpos (starEach es X.env)).any (·.1)) = false; rw [hplain] <;> rfl) (Calls.evalArgs_plain ?_)
 exact thn hA fun us s2 ⟨vs, H2, I2, r2, q2⟩ => hm pins s2 σ H2 x vs v us Q I2 r1 r2 q2
theorem q_popL (ho : QE X o to) (hbase : attributeBase o "pop" X.env (eval o X.env) = eval o X.env := by rfl) (hline : (apos.endLine == cpos.line) = true := by rfl) : QE X (.Call (.Attribute o "pop" apos) [] [] cpos) (tLm0 rPop to) :=
 ⟨pe_lm0 PySem.F.slot_list_pop PySem.F.type_list_pop mt_pop (fun _ _ _ ⟨l, zs, _, h1, _, h2, _⟩ => ⟨l, zs, h1, h2⟩) ho.h hbase hline⟩
theorem q_ext (ho : QE X o to) (ha : QA X [e] t) (hbase : attributeBase o "extend" X.env (eval o X.env) = eval o X.env := by rfl) (hline : (apos.endLine == cpos.line) = true := by rfl) (hp : Zao e = true := by rfl) :
  QE X (.Call (.Attribute o "extend" apos) [e] [] cpos) (tLm ZeG to t) :=
 ⟨pe_lm PySem.F.slot_list_extend PySem.F.type_list_extend Zjy ho.h ha.h hbase (by rw [Zak hp]; rfl) hline (Zak hp) rfl⟩
end
end My
namespace My
open PySem PySem.Spec L2
open PyProof.Rows hiding St
theorem ZkL {P : Program} {w : World} {k : Key} {u : Value} (h : (ZaO P w).is k u = true) : RelV (kV k) u := by
 rcases ZaL h with ⟨i, t, rfl, rfl⟩ | ⟨x, t, rfl, rfl⟩ <;> exact ⟨t, rfl⟩
section
variable {X : Cx} {pins : List (Addr × Obj)} {σ : St} {H : Hp} {s : Shared} {a : Addr} {kvs : List (Key × V)}
theorem freeze (I : Inv X pins σ H s) (e : H a = some (.dK kvs)) : ∃ o, Inv X pins σ (upd H a (.frz o (.dK kvs))) s := by
 obtain ⟨z, hd, vs, rel, o, es, ep, ho, r⟩ := dk_of I.hok e
 refine ⟨o, ?_⟩
 exact I.write (x := a) (e := a) (o := .frz o (.dK kvs)) (h' := s.heap) (t' := s.toks) (by rw [e]; exact trivial) (.inl rfl) (fun b u _ q => q) ⟨o, ho⟩ ⟨ho, z, hd, vs, rel, o, es, ep, ho, r⟩
def tFrz (i : Nat) (t : TS) : TS := fun D σ H => ∃ a kvs, σ[i]? = some (some (.ref a)) ∧ H a = some (.dK kvs) ∧ ∀ o, t D σ (upd H a (.frz o (.dK kvs)))
theorem b_frz {sts : List Stmt} {t : TS} (i : Nat) (h : QB X sts t) : QB X sts (tFrz i t) := ⟨fun pins s σ H D I ⟨_, _, _, e, q⟩ => let ⟨o, I'⟩ := freeze I e; h.h pins s σ _ D I' (q o)⟩
end
def Itd (a : Addr) (o : Obj) (kvs : List (Key × V)) : It := ⟨fun i H => H a = some (.frz o (.dK kvs)) ∧ i < kvs.length, fun i H x H' => H' = H ∧ ∃ kv, kvs[i]? = some kv ∧ x = kV kv.1, fun i H => H a = some (.frz o (.dK kvs)) ∧ kvs.length ≤ i⟩
theorem frz_at {P : Program} {w : World} {H : Hp} {h : Heap} {a : Addr} {o : Obj} {kvs : List (Key × V)} {es} {ep : Nat} (ok : HOk P w H h) (e : H a = some (.frz o (.dK kvs))) (hep : o.data = .dict es ep) :
  (a == sysModules) = false ∧ kvs.length ≤ sizeLine ∧ ∃ vs, KV kvs vs ∧ h.DictAt (ZaO P w) a vs ep := by
 obtain ⟨ho, z, hd, vs, rel, o', es', ep', ho', h1, h2, h3⟩ := (show ObjOk P w H h a (.frz o (.dK kvs)) from ok a _ e)
 rw [ho] at ho'
 cases ho'
 rw [hep] at h2
 cases h2
 exact ⟨hd, z, vs, rel, o, es, ho, h1, hep, h3⟩
theorem Zj5 {kvs : List (Key × V)} {vs : List (Key × Value)} (r : KV kvs vs) {i : Nat} (hi : i < kvs.length) : ∃ kv v, kvs[i]? = some kv ∧ vs[i]? = some (kv.1, v) := by
 have hl : i < vs.length := by rw [← r.length]; exact hi
 have hk := congrArg (·[i]?) r.keys
 simp only [List.getElem?_map, List.getElem?_eq_getElem hi, List.getElem?_eq_getElem hl, Option.map_some, Option.some.injEq] at hk
 exact ⟨kvs[i], vs[i].2, List.getElem?_eq_getElem hi, by rw [List.getElem?_eq_getElem hl, hk]⟩
theorem ZjP {P : Program} {w : World} {K : PySem.W.Frag} {tg : Expr} (a it : Addr) (o : Obj) (kvs : List (Key × V)) {es} {ep : Nat} (hep : o.data = .dict es ep) : Turn P w K tg (Itd a o kvs) [it] it (fun i h => h.IsKeyIter it a i kvs.length ep) where
 mem := by simp
 obj := fun i h st b hb => by
  have e : b = it := by simpa using hb
  subst e
  obtain ⟨o, e, c, d⟩ := st
  exact ⟨o, e, fun v z => by rw [d] at z; cases z⟩
 keep := fun i h h' st k => st.at fun o e => k it (by simp) o e
 item := by
  intro X hP hw hK hc i pins s σ H E I hf st hg
  subst hP hw hK
  obtain ⟨e, hi⟩ := hg
  obtain ⟨_, _, vs, rel, at_⟩ := frz_at I.hok e hep
  obtain ⟨kv, v, g1, g2⟩ := Zj5 rel hi
  obtain ⟨f0, f1, f2, f3, f4, f5⟩ := hf it (by simp)
  rw [rel.length] at st
  refine wpAny_pyNext_dict_item st at_ g2 fun key h' hk st' sb => ?_
  have I1 : Inv X pins σ H { s with heap := h' } := I.turned (t' := s.toks) (fun b o hb e => (sb.2 b hb).trans e) f0 f1 f3 f4 f5
  obtain ⟨ob, e', c, d⟩ := id st'
  rw [← rel.length] at st'
  exact ⟨key, rfl, go_of (s := { s with heap := h' }) e' c d (by decide) ⟨kV kv.1, H, I1, ZkL hk, ⟨rfl, kv, g1, rfl⟩, st', fun b hb => (hf b hb).1⟩⟩
 done := by
  intro X hP hw hK hc i pins s σ H E I hf st hg
  subst hP hw hK
  obtain ⟨e, hi⟩ := hg
  obtain ⟨_, _, vs, rel, at_⟩ := frz_at I.hok e hep
  obtain ⟨f0, f1, f2, f3, f4, f5⟩ := hf it (by simp)
  rw [rel.length] at st hi
  exact wpAny_pyNext_dict_end (I.ok.hd hc) st at_ (List.getElem?_eq_none hi) fun h' eb => ⟨rfl, I.turned (t' := s.toks) (fun b o hb e => eb b o hb e) f0 f1 f3 f4 f5⟩
 self := fun _ _ _ _ _ st h => wpAny_pyIter_keyiter st h
def Zgi (tl : TE) : TI := fun σ H R => tl σ H fun x H1 => ∃ a o kvs, x = .ref a ∧ H1 a = some (.frz o (.dK kvs)) ∧ R (Itd a o kvs) H1
section
variable {X : Cx} {tg l o i e value : Expr} {tl td ty tv : TE} {t : TA} {pos pos' p : Pos}
theorem pi_dict (hl : PE X l tl) : PI X tg l (Zgi tl) := by
 intro pins s σ H R I h
 refine thn (hl pins s σ H _ I h) fun v s1 ⟨x, H1, I1, r1, q1⟩ => ?_
 obtain ⟨a, o, kvs, e, hq, q⟩ := q1
 subst e
 cases r1
 obtain ⟨ho, z, hd, vs, rel, o', es, ep, ho', h1, h2, h3⟩ := (show ObjOk X.prog X.w H1 s1.heap a (.frz o (.dK kvs)) from I1.hok a _ hq)
 rw [ho] at ho'
 cases ho'
 refine wpAny_pyIter_dict hd ⟨o, es, ho, h1, h2, h3⟩ ?_
 refine ⟨s1.heap.objs.size, [s1.heap.objs.size], _, _, H1, rfl, I1.kept (t' := s1.toks) fun b o e => Heap.get?_push_of_some _ e, ZjP a _ o kvs h2, ⟨_, Heap.get?_push_size _ rfl, rfl, by rw [rel.length]; rfl⟩, fun b hb => ?_, q⟩
 have e : b = s1.heap.objs.size := by simpa using hb
 subst e
 exact I1.fpOk (Nat.le_refl _) (I1.hok.fresh (Nat.le_refl _))
theorem Zfy (hl : QE X l tl) : QI X tg l (Zgi tl) := ⟨pi_dict hl.h⟩
def tDG (td ty : TE) : TE := fun σ H Q => td σ H fun x H1 => ty σ H1 fun y H2 => ∃ a kvs k v, x = .ref a ∧ Rd H2 a (.dK kvs) ∧ y = kV k ∧ Zdn kvs k = some v ∧ Q v H2
theorem ZbZ (hu : X.A.units + 1 < cLine) (ho : QE X o td) (hi : QE X i ty) (hs : NoSl i := by intro _ _; rfl) : QE X (.Subscript o i pos) (tDG td ty) := ⟨by
 intro pins s σ H Q I h
 refine subD_of PySem.F.slot_dict_getitem.lookup hs (thn (ho.h pins s σ H _ I h) fun u s1 ⟨x, H1, I1, rx, q1⟩ => thn (hi.h pins s1 σ H1 _ I1 q1) fun iv s2 ⟨y, H2, I2, ry, a, kvs, k, v, ex, g, ey, hv, q2⟩ => ?_)
 subst ex
 obtain rfl : u = Value.ref a := rx
 have g' : DGet H2 a y (some v) := .inl ⟨kvs, k, g, ey, hv.symm⟩
 exact ⟨Zgv I2 g', ZiP hu I2 g' ry fun w' s3 I3 rw' => ⟨v, H2, I3, rw', q2⟩⟩⟩
def sDP (td ty tv : TE) : TS := fun D σ H => tv σ H fun v H1 => td σ H1 fun x H2 => ty σ H2 fun y H3 => ∃ a kvs k, x = .ref a ∧ H3 a = some (.dK kvs) ∧ y = kV k ∧ kvs.length < 1000 ∧ D.nx σ (upd H3 a (.dK (Zbr kvs k v)))
theorem Zd9 (hu : X.A.units + 1 < cLine) (ho : QE X o td) (hi : QE X i ty) (hv : QE X value tv) (hs : swapsWith value (some (.Subscript o i pos')) pos.line X.env = pure false := by rfl) : QS X (.Assign [.Subscript o i pos'] value pos) (sDP td ty tv) := ⟨by
 intro pins s σ H D I h
 refine wpAny_Assign_Subscript (thn (hv.h pins s σ H _ I h) fun r s1 ⟨v, H1, I1, rv, q1⟩ => thn (ho.h pins s1 σ H1 _ I1 q1) fun u s2 ⟨x, H2, I2, rx, q2⟩ => thn (hi.h pins s2 σ H2 _ I2 q2) fun iv s3 ⟨y, H3, I3, ry, a, kvs, k, ex, g, ey, hl, q3⟩ => ?_) hs
 subst ex ey
 obtain rfl : u = Value.ref a := rx
 exact Ziw hu I3 (DPut.k g (Zfv (Nat.le_of_lt hl))) ry rv fun s4 I4 => ⟨σ, _, I4, q3⟩⟩
def tDI (neg : Bool) (ty td : TE) : TE := fun σ H Q => ty σ H fun y H1 => td σ H1 fun x H2 => ∃ a kvs k, x = .ref a ∧ Rd H2 a (.dK kvs) ∧ y = kV k ∧ Q (.bl (if neg = true then !(Zdn kvs k).isSome else (Zdn kvs k).isSome)) H2
theorem pc_ninD (hu : X.A.units + 1 < cLine) (hi : PE X i ty) (ho : PE X o td) : PC X .NotIn i o (tDI true ty td) := by
 intro pins s σ H Q I h
 refine thn (hi pins s σ H _ I h) fun iv s1 ⟨y, H1, I1, ry, q1⟩ => thn (ho pins s1 σ H1 _ I1 q1) fun u s2 ⟨x, H2, I2, rx, a, kvs, k, ex, g, ey, q2⟩ => ?_
 subst ex
 obtain rfl : u = Value.ref a := rx
 exact d_notIn hu I2 (.inl ⟨kvs, k, g, ey, rfl⟩) ry fun s3 I3 => ⟨.bl _, H2, I3, rfl, by simpa using q2⟩
theorem t_ninD (hu : X.A.units + 1 < cLine) (hi : QE X i ty) (ho : QE X o td) (hm : behindInMarks .NotIn o = false := by with_unfolding_all rfl) : QT X (.Compare i [.NotIn] [o] pos) (tB (tDI true ty td)) := ⟨pt_cmp (pc_ninD hu hi.h ho.h) hm⟩
theorem Zis : QE X (.Dict [] [] pos) (fun _ H Q => ∀ p H2, H p = none → Same H H2 → H2 p = some (.dK []) → Q (.ref p) H2) := ⟨fun pins s σ H Q I h => ZlK pins s σ H Q I fun p hp => h p _ hp (ZaK hp _) upd_same⟩
theorem ZhH : CallR X (.builtin "len") (fun xs H Q => ∃ a kvs, xs = [.ref a] ∧ Rd H a (.dK kvs) ∧ Q (.int kvs.length) H) := by
 intro pins s σ H xs us Q I r h
 obtain ⟨a, kvs, rfl, e, q⟩ := h
 obtain ⟨u, rfl, ru⟩ := Zcc r
 cases ru
 exact d_len I e fun t s' I' => ⟨.int kvs.length, H, I', ⟨t, rfl⟩, q⟩
theorem q_lenD (hg : Gl X "len") (hm : X.mg "len" = none) (ha : QA X [e] t) (hp : Zao e = true := by rfl) : QE X (.Call (.Name "len" p) [e] [] pos) (tCB (fun xs H Q => ∃ a kvs, xs = [.ref a] ∧ Rd H a (.dK kvs) ∧ Q (.int kvs.length) H) t) :=
 ⟨Zb6 ZhH hg hm PySem.boot_len ha.h (by decide) (by decide) (Zak hp) rfl⟩
def rDictF : List V → Hp → VK → Prop := fun xs H Q => ∃ a kvs, xs = [.ref a] ∧ Rd H a (.dK kvs) ∧ ∀ p o H2, H p = none → Same H H2 → H2 p = some (.frz o (.dK kvs)) → Q (.ref p) H2
def rDictU : List V → Hp → VK → Prop := fun xs H Q => ∃ a kvs, xs = [.ref a] ∧ Rd H a (.dK kvs) ∧ ∀ p H2, H p = none → Same H H2 → H2 p = some (.dK kvs) → Q (.ref p) H2
theorem Zho : CallR X (.type "dict") rDictU := by
 intro pins s σ H xs us Q I r h
 obtain ⟨a, kvs, rfl, e, q⟩ := h
 obtain ⟨u, rfl, ru⟩ := Zcc r
 cases ru
 exact Zha I e fun p s' hp I' => ⟨.ref p, _, I', rfl, q p _ hp (ZaK hp _) upd_same⟩
theorem Zhc : CallR X (.type "dict") rDictF := by
 intro pins s σ H xs us Q I r h
 obtain ⟨a, kvs, rfl, e, q⟩ := h
 obtain ⟨u, rfl, ru⟩ := Zcc r
 cases ru
 refine Zha I e fun p s' hp I' => ?_
 obtain ⟨o, I2⟩ := freeze I' (a := p) (kvs := kvs) upd_same
 rw [upd_upd] at I2
 exact ⟨.ref p, _, I2, rfl, q p o _ hp (ZaK hp _) upd_same⟩
theorem q_dictF (hg : Gl X "dict") (hm : X.mg "dict" = none) (ha : QA X [e] t) (hp : Zao e = true := by rfl) : QE X (.Call (.Name "dict" p) [e] [] pos) (tCB rDictF t) := ⟨Zch Zhc hg hm (by decide +kernel) ha.h (by decide) (by decide) (Zak hp) rfl⟩
theorem Zj4 (hg : Gl X "dict") (hm : X.mg "dict" = none) (ha : QA X [e] t) (hp : Zao e = true := by rfl) : QE X (.Call (.Name "dict" p) [e] [] pos) (tCB rDictU t) := ⟨Zch Zho hg hm (by decide +kernel) ha.h (by decide) (by decide) (Zak hp) rfl⟩
def rListD : List V → Hp → VK → Prop := fun xs H Q => ∃ a kvs, xs = [.ref a] ∧ Rd H a (.dK kvs) ∧ ∀ l H2, H l = none → Same H H2 → H2 l = some (.lst (kvs.map fun kv => kV kv.1)) → Q (.ref l) H2
theorem Zhd (hc : X.calm = true) : CallR X (.type "list") rListD := by
 intro pins s σ H xs us Q I r h
 obtain ⟨a, kvs, rfl, e, q⟩ := h
 obtain ⟨u, rfl, ru⟩ := Zcc r
 cases ru
 obtain ⟨z, hd, vs, rel, dd⟩ := ZcS I.hok e
 obtain ⟨ep, at_⟩ := dd.dictAt
 have hf : H s.heap.objs.size = none := I.hok.fresh (Nat.le_refl _)
 refine PySem.W.kdl_call (PySem.W.kdl_dict hd) (I.ok.hd hc) at_ (by rw [← rel.length]; exact z) fun h' tk acc' c' kk hl ⟨hs, hacc⟩ => ?_
 refine ⟨.ref s.heap.objs.size, _, I.laid (o := .lst (kvs.map fun kv => kV kv.1)) kk (Nat.le_refl _) (show ObjOk X.prog X.w _ h' _ (.lst (kvs.map fun kv => kV kv.1)) from ⟨by rw [List.length_map]; exact z, acc'.toList, c', ZdQ ?_ fun i x u e1 e2 => ?_, by simpa using hl⟩), rfl, q _ _ hf (ZaK hf _) upd_same⟩
 ·rw [List.length_map, rel.length]; simpa using hs.symm
 ·obtain ⟨k, x', g1, g2⟩ := hacc i u (by simpa using e2)
  have hi : i < kvs.length := by have := (List.getElem?_eq_some_iff.mp e1).1; simpa using this
  obtain ⟨kv, v, g3, g4⟩ := Zj5 rel hi
  rw [g1] at g4
  cases g4
  rw [List.getElem?_map, g3] at e1
  cases e1
  exact ZkL g2
theorem ZfW (hg : Gl X "list") (hm : X.mg "list" = none) (ha : QA X [e] t) (hp : Zao e = true := by rfl) (hc : X.calm = true := by rfl) : QE X (.Call (.Name "list" p) [e] [] pos) (tCB rListD t) := ⟨Zch (Zhd hc) hg hm (by decide +kernel) ha.h (by decide) (by decide) (Zak hp) rfl⟩
end
def dictK (g : TG) (tb : TS) (D : Ends) (σ : St) : V → Hp → Prop := fun x H1 => ∃ a o kvs, x = .ref a ∧ H1 a = some (.frz o (.dK kvs)) ∧ ∃ W : Nat → Nat → St → Hp → Prop, (∃ m, W 0 m σ H1) ∧ ∀ i m σ H, W i m σ H →
 ((Itd a o kvs).stop i H ∧ D.nx σ H) ∨ ((Itd a o kvs).go i H ∧ ∃ N : St → Hp → Prop, (∀ σ' H', N σ' H' → ∃ m', m' < m ∧ W (i + 1) m' σ' H') ∧ ∀ x H', (Itd a o kvs).yld i H x H' → g x σ H' fun σ2 H2 => tb { D with nx := N, ct := N, bk := D.nx } σ2 H2)
theorem ZiN {te : TE} {g : TG} {tb : TS} {D : Ends} {σ : St} {H : Hp} : ZkS (Zgi te) g tb D σ H = te σ H (dictK g tb D σ) := rfl
theorem ZkV {a : Addr} {o : Obj} {kvs : List (Key × V)} {g : TG} {tb : TS} {D : Ends} {σ : St} {H : Hp} (Pv : Nat → St → Hp → Prop) (h0 : Pv 0 σ H) (hl : ∀ i σ H, i ≤ kvs.length → Pv i σ H → H a = some (.frz o (.dK kvs)))
  (hs : ∀ i kv σ H, kvs[i]? = some kv → Pv i σ H → g (kV kv.1) σ H fun σ2 H2 => tb { D with nx := Pv (i + 1), ct := Pv (i + 1), bk := D.nx } σ2 H2) (hd : ∀ σ H, Pv kvs.length σ H → D.nx σ H) : dictK g tb D σ (.ref a) H := by
 refine ⟨a, o, kvs, rfl, hl 0 σ H (Nat.zero_le _) h0, fun i m σ H => m = kvs.length - i ∧ i ≤ kvs.length ∧ Pv i σ H, ⟨kvs.length, by simp, Nat.zero_le _, h0⟩, ?_⟩
 rintro i m σ H ⟨rfl, hi, p⟩
 have q := hl i σ H hi p
 by_cases hlt : i < kvs.length
 ·refine .inr ⟨⟨q, hlt⟩, Pv (i + 1), fun σ' H' p' => ⟨kvs.length - (i + 1), by omega, rfl, hlt, p'⟩, fun x H' y => ?_⟩
  obtain ⟨rfl, kv, hkv, rfl⟩ := y
  exact hs i kv σ _ hkv p
 ·have e : i = kvs.length := by omega
  subst e
  exact .inl ⟨⟨q, Nat.le_refl _⟩, hd _ _ p⟩
theorem Ze5 {a : Addr} {o : Obj} {kvs : List (Key × V)} {nt : Nat} {cp : St} {g : TG} {tt : TT} {te : TE} {H1 : Hp} {Q : VK} (Pv : Addr → Nat → List V → Hp → Prop) (h0 : ∀ acc H2, H1 acc = none → Same H1 H2 → H2 acc = some (.lst []) → Pv acc 0 [] H2)
  (hl : ∀ acc i ys H, Pv acc i ys H → H acc = some (.lst ys) ∧ ys.length < 1000000 ∧ H a = some (.frz o (.dK kvs)))
  (hs : ∀ acc i kv ys H os, H1 acc = none → kvs[i]? = some kv → Pv acc i ys H → os.length = nt → g (kV kv.1) (os ++ cp) H fun τ H3 => ∃ os', os'.length = nt ∧ τ = os' ++ cp ∧ tt τ H3 fun b H4 => if b = true then te τ H4 fun v H5 => H5 acc = some (.lst ys) ∧ Pv acc (i + 1) (ys ++ [v]) (upd H5 acc (.lst (ys ++ [v]))) else Pv acc (i + 1) ys H4)
  (hd : ∀ acc ys H, H1 acc = none → Pv acc kvs.length ys H → Q (.ref acc) H) : ZfN nt cp (Itd a o kvs) g tt te H1 Q := by
 intro acc H2 hn sm e
 refine ⟨fun i m ys H => m = kvs.length - i ∧ i ≤ kvs.length ∧ Pv acc i ys H, ⟨kvs.length, by simp, Nat.zero_le _, h0 acc H2 hn sm e⟩, ?_⟩
 rintro i m ys H ⟨rfl, hi, p⟩
 obtain ⟨q1, q2, q3⟩ := hl acc i ys H p
 refine ⟨q1, ?_⟩
 by_cases hlt : i < kvs.length
 ·refine .inr ⟨⟨q3, hlt⟩, q2, Pv acc (i + 1), fun ys' H' p' => ⟨kvs.length - (i + 1), by omega, rfl, hlt, p'⟩, fun os x H' ol y => ?_⟩
  obtain ⟨rfl, kv, hkv, rfl⟩ := y
  exact hs acc i kv ys _ os hn hkv p ol
 ·have e : i = kvs.length := by omega
  subst e
  exact .inl ⟨⟨q3, Nat.le_refl _⟩, hd _ _ _ hn p⟩
theorem Zdv {K : PySem.W.Frag} {a : Addr} {xs : List V} {nt : Nat} {cp : St} {g : TG} {tt : TT} {te : TE} {H1 : Hp} {Q : VK} (Pv : Addr → Nat → List V → Hp → Prop) (h0 : ∀ acc H2, H1 acc = none → Same H1 H2 → H2 acc = some (.lst []) → Pv acc 0 [] H2)
  (hl : ∀ acc i ys H, H1 acc = none → Pv acc i ys H → H acc = some (.lst ys) ∧ ys.length < 1000000 ∧ SqL K H a xs)
  (hs : ∀ acc i x ys H os, H1 acc = none → xs[i]? = some x → Pv acc i ys H → os.length = nt → g x (os ++ cp) H fun τ H3 => ∃ os', os'.length = nt ∧ τ = os' ++ cp ∧ tt τ H3 fun b H4 => if b = true then te τ H4 fun v H5 => H5 acc = some (.lst ys) ∧ Pv acc (i + 1) (ys ++ [v]) (upd H5 acc (.lst (ys ++ [v]))) else Pv acc (i + 1) ys H4)
  (hd : ∀ acc ys H, H1 acc = none → Pv acc xs.length ys H → Q (.ref acc) H) : ZfN nt cp (Itl K a) g tt te H1 Q := by
 intro acc H2 hn sm e
 refine ⟨fun i m ys H => m = xs.length - i ∧ i ≤ xs.length ∧ Pv acc i ys H, ⟨xs.length, by simp, Nat.zero_le _, h0 acc H2 hn sm e⟩, ?_⟩
 rintro i m ys H ⟨rfl, hi, p⟩
 obtain ⟨q1, q2, q3⟩ := hl acc i ys H hn p
 refine ⟨q1, ?_⟩
 by_cases hlt : i < xs.length
 ·refine .inr ⟨⟨xs, xs[i], q3, by simp [hlt]⟩, q2, Pv acc (i + 1), fun ys' H' p' => ⟨xs.length - (i + 1), by omega, rfl, hlt, p'⟩, fun os x H' ol y => ?_⟩
  obtain ⟨rfl, hy⟩ := y
  exact hs acc i x ys _ os hn (hy xs q3) p ol
 ·have e : i = xs.length := by omega
  subst e
  exact .inl ⟨⟨xs, q3, Nat.le_refl _⟩, hd _ _ _ hn p⟩
end My
namespace My
open PySem PySem.Spec L2
open PyProof.Rows hiding St
def Itz (K : PySem.W.Frag) (a b : Addr) : It :=
  ⟨fun i H => ∃ xs ys x y, SqL K H a xs ∧ SqL K H b ys ∧ xs[i]? = some x ∧ ys[i]? = some y, fun i H x H' => ∃ p u v, x = .ref p ∧ H p = none ∧ Same H H' ∧ H' p = some (.tup [u, v]) ∧ (∀ xs, SqL K H a xs → xs[i]? = some u) ∧ ∀ ys, SqL K H b ys → ys[i]? = some v,
   fun i H => ∃ xs ys, SqL K H a xs ∧ SqL K H b ys ∧ (xs.length ≤ i ∨ ys.length ≤ i)⟩
theorem ZlJ {P : Program} {w : World} {K : PySem.W.Frag} {es : List Expr} {x1} {pos : Pos} (a b z TI TO i1 i2 : Addr) (D : ZipApart z TI TO i1 i2 a b) :
  Turn P w K (.Tuple es x1 pos) (Itz K a b) [z, TI, TO, i1, i2] z (fun i h => IsZip h z TI TO .none ∧ IsPair h TI (.ref i1) (.ref i2) ∧ (∃ u v, IsPair h TO u v) ∧ h.IsListIter i1 a i ∧ h.IsListIter i2 b i) where
 mem := by simp
 obj := fun i h st c hc => by
  obtain ⟨hz, hTI, ⟨u, v, hTO⟩, ⟨o1, e1, c1, d1⟩, o2, e2, c2, d2⟩ := st
  simp only [List.mem_cons, List.not_mem_nil, or_false] at hc
  rcases hc with rfl | rfl | rfl | rfl | rfl
  ·exact ⟨_, hz, fun v z => by cases z⟩
  ·exact ⟨_, hTI, fun v z => by cases z⟩
  ·exact ⟨_, hTO, fun v z => by cases z⟩
  ·exact ⟨_, e1, fun v z => by rw [d1] at z; cases z⟩
  ·exact ⟨_, e2, fun v z => by rw [d2] at z; cases z⟩
 keep := fun i h h' st k => by
  obtain ⟨hz, hTI, ⟨u, v, hTO⟩, h1, h2⟩ := st
  exact ⟨k z (by simp) _ hz, k TI (by simp) _ hTI, ⟨u, v, k TO (by simp) _ hTO⟩, h1.at fun o x => k i1 (by simp) o x, h2.at fun o x => k i2 (by simp) o x⟩
 item := by
  intro X hP hw hK hc i pins s σ H E I hf st hg
  subst hP hw hK
  obtain ⟨hz, hTI, ⟨u0, v0, hTO⟩, h1, h2⟩ := st
  obtain ⟨xs, ys, x, y, hqa, hqb, hx, hy⟩ := hg
  obtain ⟨its, rv, p, _⟩ := I.list hqa
  obtain ⟨its2, rv2, p2, _⟩ := I.list hqb
  obtain ⟨u, hu, ru⟩ := rv.get hx
  obtain ⟨v, hv, rv'⟩ := rv2.get hy
  have hn : H s.heap.objs.size = none := I.hok.fresh (Nat.le_refl _)
  have lt : ∀ c ∈ [z, TI, TO, i1, i2], c < s.heap.objs.size := fun c hc => by
   obtain ⟨o1, e1, _⟩ := h1
   obtain ⟨o2, e2, _⟩ := h2
   simp only [List.mem_cons, List.not_mem_nil, or_false] at hc
   rcases hc with rfl | rfl | rfl | rfl | rfl
   ·exact Heap.lt_size hz
   ·exact Heap.lt_size hTI
   ·exact Heap.lt_size hTO
   ·exact Heap.lt_size e1
   ·exact Heap.lt_size e2
  refine wpAny_pyNext_zip_item D hz hTI hTO h1 h2 p.isList p2.isList (x := u) (y := v) (by simpa using hu) (by simpa using hv) fun h' a1 a2 a3 a4 a5 a6 kk => ?_
  refine ⟨_, rfl, wpAny_letOwnedTupleGo_zip (s := { s with heap := h' }) a1 fun h2' hz2 sb => ?_⟩
  have sb2 : ∀ c, c ≠ z → h2'.get? c = h'.get? c := sb.2
  have nz : s.heap.objs.size ≠ z := Nat.ne_of_gt (lt z (by simp))
  have kt : h2'.get? s.heap.objs.size = some { cls := .type "tuple", data := .seq #[u, v] } := (sb2 _ nz).trans a5
  have I1 : Inv X pins σ (upd H s.heap.objs.size (.tup [x, y])) { s with heap := h2', toks := s.toks } := by
   refine ZdH (ch := [z, TI, TO, i1, i2]) I (fun c o hb q => ?_) hf ?_
   ·simp only [List.mem_cons, List.not_mem_nil, or_false, not_or] at hb
    rw [sb2 c hb.1]
    exact kk c o hb.1 hb.2.2.1 hb.2.2.2.1 hb.2.2.2.2 q
   ·exact ⟨by show 2 ≤ sizeLine; decide, [u, v], .cons ru (.cons rv' .nil), ⟨_, kt, rfl, _, rfl⟩⟩
  refine ⟨.ref s.heap.objs.size, _, I1, rfl, ⟨_, x, y, rfl, hn, ZaK hn _, upd_same, fun zs hz => by rw [I.list_inj hz hqa]; exact hx, fun zs hz => by rw [I.list_inj hz hqb]; exact hy⟩, ⟨hz2, (sb2 _ D.TIz).trans (kk _ _ D.TIz D.TITO D.TIi1 D.TIi2 hTI), ⟨u, v, (sb2 _ D.TOz).trans a2⟩, ?_, ?_⟩, fun c hc => ?_⟩
  ·obtain ⟨o, q, r⟩ := a3
   exact ⟨o, (sb2 _ D.i1z).trans q, r⟩
  ·obtain ⟨o, q, r⟩ := a4
   exact ⟨o, (sb2 _ D.i2z).trans q, r⟩
  ·rw [Zae (Nat.ne_of_lt (lt c hc))]
   exact (hf c hc).1
 done := by
  intro X hP hw hK hc i pins s σ H E I hf st hg
  subst hP hw hK
  obtain ⟨hz, hTI, ⟨u0, v0, hTO⟩, h1, h2⟩ := st
  obtain ⟨xs, ys, hqa, hqb, he⟩ := hg
  obtain ⟨its, rv, p, _⟩ := I.list hqa
  obtain ⟨its2, rv2, p2, _⟩ := I.list hqb
  have l1 := rv.length
  have l2 := rv2.length
  refine wpAny_pyNext_zip_end (I.ok.hd hc) D hz hTI hTO h1 h2 p.isList p2.isList (he.imp (fun z => by simp; omega) fun z => by simp; omega) fun h' eb => ⟨rfl, Zj1 (t' := s.toks) (ch := [z, TI, TO, i1, i2]) I (fun c o hb q => ?_) hf⟩
  simp only [List.mem_cons, List.not_mem_nil, or_false, not_or] at hb
  exact eb c o hb.1 hb.2.2.1 hb.2.2.2.1 hb.2.2.2.2 q
 self := fun _ _ _ _ _ st h => wpAny_pyIter_zip st.1 h
theorem Zi7 (n a b : Nat) (ha : a < n) (hb : b < n) : ZipApart (n + 4) (n + 2) (n + 3) n (n + 1) a b := by
 constructor <;> (intro z; have z' := Nat.le_of_eq z; have z'' := Nat.le_of_eq z.symm; omega)
def iZip (K : PySem.W.Frag) (ta : TA) : TI := fun σ H R => ta σ H fun vs H1 => ∃ a b, vs = [.ref a, .ref b] ∧ (∃ xs, SqL K H1 a xs) ∧ (∃ ys, SqL K H1 b ys) ∧ R (Itz K a b) H1
theorem Zk4 : bootBuiltins "zip" = some (.type "zip") := by decide +kernel
section
variable {X : Cx} {l m : Expr} {ta : TA} {p pos pos' : Pos} {es : List Expr}
theorem pi_zip {x1} (hg : Gl X "zip") (hm : X.mg "zip" = none) (ha : PA X [l, m] ta) (hs : starEach [l, m] X.env = [(false, eval l X.env), (false, eval m X.env)] := by rfl) (hs2 : starEach [m] X.env = [(false, eval m X.env)] := by rfl) : PI X (.Tuple es x1 pos') (.Call (.Name "zip" p) [l, m] [] pos) (iZip X.K ta) := by
 intro pins s σ H R I h
 refine Call_ (ZbO I hg hm Zk4 (PyProof.Rows.callWith_type1 (thn (ha pos pins s σ H _ I h) fun us s1 ⟨vs, H1, I1, r1, q1⟩ => ?_) (by rw [hs, hs2]) (by rw [hs2]; rfl)))
 obtain ⟨a, b, e, ⟨xs, hqa⟩, ⟨ys, hqb⟩, q⟩ := q1
 subst e
 obtain ⟨u, v, rfl, ru, rv⟩ := ZjN r1
 cases ru
 cases rv
 obtain ⟨its, _, pl, _⟩ := I1.list hqa
 obtain ⟨its2, _, pl2, _⟩ := I1.list hqb
 have la : a < s1.heap.objs.size := by obtain ⟨o, n, e, _⟩ := pl; exact Heap.lt_size e
 have lb : b < s1.heap.objs.size := by obtain ⟨o, n, e, _⟩ := pl2; exact Heap.lt_size e
 refine call_zip_2 pl.isList pl2.isList fun h' hz hTI hTO g1 g2 hsz kk => ?_
 have I2 : Inv X pins σ H1 { s1 with heap := h' } := I1.kept (t' := s1.toks) kk
 have D := Zi7 _ _ _ la lb
 refine wpAny_pyIter_zip (s := { s1 with heap := h' }) hz ⟨_, [s1.heap.objs.size + 4, s1.heap.objs.size + 2, s1.heap.objs.size + 3, s1.heap.objs.size, s1.heap.objs.size + 1], _, _, H1, rfl, I2, ZlJ a b _ _ _ _ _ D, ⟨hz, hTI, ⟨_, _, hTO⟩, g1, g2⟩, fun c hc => ?_, q⟩
 have hb' : s1.heap.objs.size ≤ c := by
  simp only [List.mem_cons, List.not_mem_nil, or_false] at hc
  rcases hc with rfl | rfl | rfl | rfl | rfl
  ·exact Nat.le_add_right _ _
  ·exact Nat.le_add_right _ _
  ·exact Nat.le_add_right _ _
  ·exact Nat.le_refl _
  ·exact Nat.le_add_right _ _
 exact I1.fpOk hb' (I1.hok.fresh hb')
theorem i_zip {x1} (hg : Gl X "zip") (hm : X.mg "zip" = none) (ha : QA X [l, m] ta) (hp : Zao l = true := by rfl) (hq : Zao m = true := by rfl) : QI X (.Tuple es x1 pos') (.Call (.Name "zip" p) [l, m] [] pos) (iZip X.K ta) :=
 ⟨pi_zip hg hm ha.h (by rw [Zak hp, Zak hq]; rfl) (Zak hq)⟩
end
def zipK (K : PySem.W.Frag) (g : TG) (tb : TS) (D : Ends) (σ : St) : List V → Hp → Prop := fun vs H1 => ∃ a b, vs = [.ref a, .ref b] ∧ (∃ xs, SqL K H1 a xs) ∧ (∃ ys, SqL K H1 b ys) ∧ ∃ W : Nat → Nat → St → Hp → Prop, (∃ m, W 0 m σ H1) ∧ ∀ i m σ H, W i m σ H →
 ((Itz K a b).stop i H ∧ D.nx σ H) ∨ ((Itz K a b).go i H ∧ ∃ N : St → Hp → Prop, (∀ σ' H', N σ' H' → ∃ m', m' < m ∧ W (i + 1) m' σ' H') ∧ ∀ x H', (Itz K a b).yld i H x H' → g x σ H' fun σ2 H2 => tb { D with nx := N, ct := N, bk := D.nx } σ2 H2)
theorem ZgA {K : PySem.W.Frag} {ta : TA} {g : TG} {tb : TS} {D : Ends} {σ : St} {H : Hp} : ZkS (iZip K ta) g tb D σ H = ta σ H (zipK K g tb D σ) := rfl
theorem ZiH {K : PySem.W.Frag} {a b : Addr} {xs ys : List V} {g : TG} {tb : TS} {D : Ends} {σ : St} {H : Hp} (hxy : xs.length = ys.length) (Pv : Nat → St → Hp → Prop) (h0 : Pv 0 σ H) (hl : ∀ i σ H, i ≤ xs.length → Pv i σ H → SqL K H a xs ∧ SqL K H b ys)
  (hs : ∀ i x y σ H p H', xs[i]? = some x → ys[i]? = some y → Pv i σ H → H p = none → Same H H' → H' p = some (.tup [x, y]) → g (.ref p) σ H' fun σ2 H2 => tb { D with nx := Pv (i + 1), ct := Pv (i + 1), bk := D.nx } σ2 H2) (hd : ∀ σ H, Pv xs.length σ H → D.nx σ H) :
  zipK K g tb D σ [.ref a, .ref b] H := by
 refine ⟨a, b, rfl, ⟨xs, (hl 0 σ H (Nat.zero_le _) h0).1⟩, ⟨ys, (hl 0 σ H (Nat.zero_le _) h0).2⟩, fun i m σ H => m = xs.length - i ∧ i ≤ xs.length ∧ Pv i σ H, ⟨xs.length, by simp, Nat.zero_le _, h0⟩, ?_⟩
 rintro i m σ H ⟨rfl, hi, p⟩
 obtain ⟨qa, qb⟩ := hl i σ H hi p
 by_cases hlt : i < xs.length
 ·have hlt2 : i < ys.length := by omega
  refine .inr ⟨⟨xs, ys, xs[i], ys[i], qa, qb, by simp [hlt], by simp [hlt2]⟩, Pv (i + 1), fun σ' H' p' => ⟨xs.length - (i + 1), by omega, rfl, hlt, p'⟩, fun x H' y => ?_⟩
  obtain ⟨c, u, v, rfl, hn, sm, e, hu, hv⟩ := y
  exact hs i u v σ H c H' (hu xs qa) (hv ys qb) p hn sm e
 ·have e : i = xs.length := by omega
  subst e
  exact .inl ⟨⟨xs, ys, qa, qb, .inl (Nat.le_refl _)⟩, hd _ _ p⟩
end My
namespace My
open PySem PySem.Spec
open PyProof.Rows hiding St
def Rise (l : List Nat) : Prop := l.Pairwise (· < ·)
theorem Rise.at {l : List Nat} (h : Rise l) {i j : Nat} {x y : Nat} (hi : l[i]? = some x) (hj : l[j]? = some y) (hij : i < j) : x < y := by
 obtain ⟨hi1, rfl⟩ := List.getElem?_eq_some_iff.mp hi
 obtain ⟨hj1, rfl⟩ := List.getElem?_eq_some_iff.mp hj
 exact List.pairwise_iff_getElem.mp h i j hi1 hj1 hij
theorem Zkb (xs : Array Nat) (j : Nat) (h : Rise xs.toList) : ∀ (f lo hi : Nat), hi - lo ≤ f → lo ≤ hi → hi ≤ xs.size → (∀ i x, i < lo → xs[i]? = some x → x < j) → (∀ i x, hi ≤ i → xs[i]? = some x → j ≤ x) →
  SetTable.below.go xs j f lo hi ≤ xs.size ∧ (∀ i x, i < SetTable.below.go xs j f lo hi → xs[i]? = some x → x < j) ∧ ∀ i x, SetTable.below.go xs j f lo hi ≤ i → xs[i]? = some x → j ≤ x := by
 intro f
 induction f with
 | zero =>
  intro lo hi h1 h2 h3 h4 h5
  have : lo = hi := by omega
  subst this
  unfold SetTable.below.go
  exact ⟨h3, h4, h5⟩
 | succ f ih =>
  intro lo hi h1 h2 h3 h4 h5
  unfold SetTable.below.go
  by_cases c : lo < hi
  ·rw [if_pos c]
   have hm : (lo + hi) / 2 < xs.size := by omega
   have e : xs[(lo + hi) / 2]? = some xs[(lo + hi) / 2] := Array.getElem?_eq_getElem hm
   have e' : xs.toList[(lo + hi) / 2]? = some xs[(lo + hi) / 2] := by rw [Array.getElem?_toList]; exact e
   dsimp only
   rw [Array.getD_eq_getD_getElem?, e, Option.getD_some]
   by_cases c2 : xs[(lo + hi) / 2] < j
   ·rw [if_pos c2]
    refine ih _ _ (by omega) (by omega) h3 (fun i x hi1 hx => ?_) h5
    by_cases c3 : i = (lo + hi) / 2
    ·subst c3; rw [e] at hx; cases hx; exact c2
    ·have := h.at (by rw [Array.getElem?_toList]; exact hx) e' (show i < (lo + hi) / 2 by omega)
     omega
   ·rw [if_neg c2]
    refine ih _ _ (by omega) (by omega) (by omega) h4 fun i x hi1 hx => ?_
    by_cases c3 : i = (lo + hi) / 2
    ·subst c3; rw [e] at hx; cases hx; omega
    ·have := h.at e' (by rw [Array.getElem?_toList]; exact hx) (show (lo + hi) / 2 < i by omega)
     omega
  ·rw [if_neg c]
   have : lo = hi := by omega
   subst this
   exact ⟨h3, h4, h5⟩
theorem Zep (xs : Array Nat) (j : Nat) (h : Rise xs.toList) : SetTable.below xs j ≤ xs.size ∧ (∀ i x, i < SetTable.below xs j → xs[i]? = some x → x < j) ∧ ∀ i x, SetTable.below xs j ≤ i → xs[i]? = some x → j ≤ x :=
 Zkb xs j h xs.size 0 xs.size (by omega) (Nat.zero_le _) (Nat.le_refl _) (fun i x hi => absurd hi (Nat.not_lt_zero _)) fun i x hi hx => by
  rw [Array.getElem?_eq_none hi] at hx; cases hx
theorem Zkn {xs : Array Nat} {j : Nat} (h : Rise xs.toList) (hj : ¬ xs[SetTable.below xs j]? = some j) : Rise (SetTable.insertAt xs (SetTable.below xs j) j).toList := by
 obtain ⟨h1, h2, h3⟩ := Zep xs j h
 rw [SetTable.toList_insertAt]
 generalize hp : SetTable.below xs j = p at *
 have hd : ∀ y ∈ xs.toList.drop p, j < y := fun y hy => by
  obtain ⟨i, hi⟩ := List.getElem?_of_mem hy
  rw [List.getElem?_drop, Array.getElem?_toList] at hi
  have h4 := h3 _ _ (Nat.le_add_right p i) hi
  by_cases c : y = j
  ·subst c
   by_cases ci : i = 0
   ·subst ci; exact absurd hi hj
   ·have hps : p < xs.size := by
     have := (Array.getElem?_eq_some_iff.mp hi).1
     omega
    have e := Array.getElem?_eq_getElem hps
    have h5 := h3 _ _ (Nat.le_refl p) e
    have h6 := h.at (by rw [Array.getElem?_toList]; exact e) (by rw [Array.getElem?_toList]; exact hi) (show p < p + i by omega)
    omega
  ·omega
 have ht : ∀ y ∈ xs.toList.take p, y < j := fun y hy => by
  obtain ⟨i, hi⟩ := List.getElem?_of_mem hy
  have hip : i < p := by have := (List.getElem?_eq_some_iff.mp hi).1; rw [List.length_take] at this; omega
  rw [List.getElem?_take, if_pos hip, Array.getElem?_toList] at hi
  exact h2 _ _ hip hi
 refine List.pairwise_append.mpr ⟨h.sublist (List.take_sublist _ _), List.pairwise_cons.mpr ⟨hd, h.sublist (List.drop_sublist _ _)⟩, fun a ha b hb => ?_⟩
 rcases List.mem_cons.mp hb with rfl | hb
 ·exact ht a ha
 ·exact Nat.lt_trans (ht a ha) (hd b hb)
def TOk (b : Bool) (t : SetTable) : Prop := Rise t.place.toList ∧ t.dummies = #[] ∧ t.led = b
theorem Zhx (n : Nat) : Rise (Array.range n).toList := by
 rw [Array.toList_range]
 exact List.pairwise_lt_range
theorem TOk.standIn {b : Bool} {t : SetTable} (h : TOk b t) (n : Nat) : TOk b (t.standIn n) := ⟨Zhx n, rfl, h.2.2⟩
theorem TOk.orStandIn {b : Bool} {t : SetTable} (h : TOk b t) (n : Nat) : TOk b (t.orStandIn n) := by
 unfold SetTable.orStandIn
 split
 ·exact h
 ·exact h.standIn n
theorem has_nil (j : Nat) : SetTable.has #[] j = false := rfl
theorem ZhJ {t : SetTable} (h : t.dummies = #[]) (j : Nat) : (t.slot j = .empty ∧ ¬ t.place[SetTable.below t.place j]? = some j) ∨ ∃ i, t.slot j = .live i := by
 unfold SetTable.slot
 dsimp only
 by_cases c : (t.place[SetTable.below t.place j]? == some j) = true
 ·rw [if_pos c]
  exact .inr ⟨_, rfl⟩
 ·rw [if_neg c, h, has_nil]
  exact .inl ⟨rfl, fun z => c (by rw [z]; exact beq_self_eq_true _)⟩
theorem ZkK {t : SetTable} (h : t.dummies = #[]) (ha : Nat → Int) (x : Int) : ∀ (f : Nat) (p : SetTable.Probe) (j : Nat) (d : Option Nat), p.dummy = none → SetTable.probe.go t ha x f p = some (.empty j d) → d = none ∧ ¬ t.place[SetTable.below t.place j]? = some j := by
 intro f
 induction f with
 | zero => intro p j d _ e; unfold SetTable.probe.go at e; cases e
 | succ f ih =>
  intro p j d hp e
  unfold SetTable.probe.go at e
  have adv : (t.advance p).dummy = none := by
   unfold SetTable.advance
   split
   ·exact hp
   ·exact hp
  rcases ZhJ h p.j with ⟨c, c2⟩ | ⟨i, c⟩
  ·rw [c] at e
   cases e
   exact ⟨hp, c2⟩
  ·rw [c] at e
   dsimp only at e
   split at e
   ·cases e
   ·exact ih _ _ _ adv e
theorem Zgq {t : SetTable} (h : t.dummies = #[]) {x : Int} {j : Nat} {b : Bool} (e : t.freeSlot x = some (j, b)) : b = false ∧ ¬ t.place[SetTable.below t.place j]? = some j := by
 unfold SetTable.freeSlot at e
 split at e
 ·rename_i j' d q
  obtain ⟨rfl, h2⟩ := ZkK h _ _ _ _ _ _ rfl q
  cases e
  exact ⟨rfl, h2⟩
 ·cases e
theorem TOk.lay {b : Bool} {t : SetTable} (h : TOk b t) (es : Array (Int × Value)) (x : Int) (v : Value) : TOk b (layNew t es x v).2.1 := by
 unfold layNew
 split
 ·rename_i j d q
  have h2 := (Zgq h.2.1 q).2
  dsimp only
  have k : TOk b (t.put j).1 := ⟨Zkn h.1 h2, by show (if SetTable.has t.dummies j then _ else t.dummies) = #[]; rw [h.2.1]; rfl, h.2.2⟩
  exact k.orStandIn _
 ·exact h.standIn _
theorem TOk.relay {b : Bool} {t : SetTable} (h : TOk b t) (es : Array (Int × Value)) (n : Nat) : TOk b (relayAll t es n).2.1 := by
 unfold relayAll
 split
 ·rename_i t' order q
  dsimp only
  split
  ·unfold SetTable.relaid SetTable.laid at q
   cases ho : SetTable.layClean (SetTable.sizeAbove n - 1) (es.map (·.1)) with
   | none => rw [ho] at q; cases q
   | some owner =>
    rw [ho] at q
    simp only [Option.bind_eq_bind, Option.bind_some, Option.pure_def, Option.some.injEq, Prod.mk.injEq] at q
    obtain ⟨rfl, _⟩ := q
    refine ⟨?_, rfl, h.2.2⟩
    show Rise (List.map (fun q : Nat × Nat => q.1) _).toArray.toList
    have key : ∀ (g : Nat → Option Nat) (l : List Nat), l.Pairwise (· < ·) → ((l.filterMap fun j => (g j).map (j, ·)).map (·.1)).Sublist l := by
     intro g l _
     induction l with
     | nil => exact .slnil
     | cons a l ih =>
      rename_i hp
      rw [List.filterMap_cons]
      cases g a with
      | none => exact (ih (List.pairwise_cons.mp hp).2).cons a
      | some y => exact (ih (List.pairwise_cons.mp hp).2).cons₂ a
    exact List.pairwise_lt_range.sublist (key (fun j => owner.getD j none) _ List.pairwise_lt_range)
  ·exact h.standIn _
 ·exact h.standIn _
end My
namespace My
open PySem PySem.Spec
open PyProof.Rows hiding St
section
variable {prog : Program} {w : World} {A : Around} {E : Value → Shared → Prop} {s : Shared}
def byT (w : World) : Bool := w.params.followText "set-order"
def Zdw (e : Int × Value) : Int := match e.2 with
 | .int k _ => k
 | _ => 0
def AllI (prog : Program) (w : World) (es : List (Int × Value)) : Prop := ∀ e ∈ es, ∃ (k : Int) (t : Tok), e.2 = .int k t ∧ e.1 = (intKind prog w).hash k
theorem AllI.elems {es : List (Int × Value)} (h : AllI prog w es) : ElemsOf (intKind prog w) es := fun e he => by
 obtain ⟨k, t, h1, h2⟩ := h e he
 rw [h1]
 exact ⟨⟨k, intKind_is _ _ _ _, h2⟩, rfl⟩
theorem AllI.perm {es es' : List (Int × Value)} (h : AllI prog w es) (p : es'.Perm es) : AllI prog w es' := fun e he => h e (p.mem_iff.mp he)
theorem AllI.is {es : List (Int × Value)} (h : AllI prog w es) {e : Int × Value} (he : e ∈ es) (k : Int) : (intKind prog w).is k e.2 = true ↔ k = Zdw e := by
 obtain ⟨k', t, h1, h2⟩ := h e he
 have h3 : Zdw e = k' := by unfold Zdw; rw [h1]
 rw [h1, KeyKind.is_eq_decide (intKind_is _ _ k' t) k, decide_eq_true_eq, h3]
def SetI (prog : Program) (w : World) (h : Heap) (a : Addr) (S : Int → Prop) (n : Nat) : Prop :=
 ∃ o es ep t, h.get? a = some o ∧ o.ExactSet ∧ o.data = .set es ep t ∧ TOk (!byT w) t ∧ t.fits es.size = true ∧ AllI prog w es.toList ∧ (es.toList.map Zdw).Nodup ∧ (∀ k, k ∈ es.toList.map Zdw ↔ S k) ∧ es.size ≤ n
theorem SetI.keep {h h' : Heap} {a : Addr} {S : Int → Prop} {n : Nat} (x : SetI prog w h a S n) (hk : ∀ o, h.get? a = some o → h'.get? a = some o) : SetI prog w h' a S n :=
 let ⟨o, es, ep, t, ho, r⟩ := x; ⟨o, es, ep, t, hk o ho, r⟩
theorem SetI.lt {h : Heap} {a : Addr} {S : Int → Prop} {n : Nat} (x : SetI prog w h a S n) : a < h.objs.size := let ⟨_, _, _, _, ho, _⟩ := x; Heap.lt_size ho
theorem SetI.store {h : Heap} {a : Addr} {o : Obj} {es : Array (Int × Value)} {ep : Nat} {t : SetTable} {es' : Array (Int × Value)} {t' : SetTable} {S : Int → Prop} {n : Nat} (ho : h.get? a = some o) (hex : o.ExactSet) (hd : o.data = .set es ep t)
  (h1 : TOk (!byT w) t') (h2 : t'.fits es'.size = true) (h3 : AllI prog w es'.toList) (h4 : (es'.toList.map Zdw).Nodup) (h5 : ∀ k, k ∈ es'.toList.map Zdw ↔ S k) (h6 : es'.size ≤ n) :
  (h.update a (Obj.putSet es' t')).get? a = some { o with data := .set es' (ep + 1) t' } ∧ SetI prog w (h.update a (Obj.putSet es' t')) a S n := by
 have hg : (h.update a (Obj.putSet es' t')).get? a = some { o with data := .set es' (ep + 1) t' } := by
  have := Heap.get?_update_self (Obj.putSet es' t') ho (by rw [putSet_of es' t' hd]; rfl)
  rw [putSet_of es' t' hd] at this; exact this
 exact ⟨hg, _, es', ep + 1, t', hg, hex, rfl, h1, h2, h3, h4, h5, h6⟩
theorem Zih {es : List (Int × Value)} (h : AllI prog w es) {k : Int} (e : es.findIdx? (fun e => (intKind prog w).is k e.2) = none) : k ∉ es.map Zdw := fun hm => by
 obtain ⟨x, hx, rfl⟩ := List.mem_map.mp hm
 have := List.findIdx?_eq_none_iff.mp e x hx
 rw [(h.is hx _).mpr rfl] at this
 cases this
theorem Zig {es : List (Int × Value)} (h : AllI prog w es) {k : Int} {j : Nat} (e : es.findIdx? (fun e => (intKind prog w).is k e.2) = some j) : k ∈ es.map Zdw := by
 obtain ⟨hj, hp, _⟩ := List.findIdx?_eq_some_iff_getElem.mp e
 exact List.mem_map.mpr ⟨_, List.getElem_mem hj, ((h.is (List.getElem_mem hj) k).mp hp).symm⟩
theorem ZiJ {g : Bool → Sem Unit} (hg : ∀ (b : Bool) (s₁ : Shared) (Q' : Unit → Shared → Prop), Q' () s₁ → wpAny (model prog w) A (g b) Q' E s₁) {a : Addr} {o : Obj} {es : Array (Int × Value)} {ep : Nat} {t : SetTable} (ho : s.heap.get? a = some o) (hex : o.ExactSet)
  (hd : o.data = .set es ep t) {es1 : Array (Int × Value)} {t2 : SetTable} {S : Int → Prop} {n : Nat} (h1 : TOk (!byT w) t2) (h2 : t2.fits es1.size = true) (h3 : AllI prog w es1.toList) (h4 : (es1.toList.map Zdw).Nodup) (h5 : ∀ k, k ∈ es1.toList.map Zdw ↔ S k)
  (h6 : es1.size ≤ n) (hn : n < scanBound) {c : Bool} {R : Option Bool → Shared → Prop} (h : ∀ h', Heap.SameBut a s.heap h' → SetI prog w h' a S n → R (some true) { s with heap := h' }) :
  wpAny (model prog w) A (do
    storeSet a es1 t2
    if c = true then do
      g (relayAll t2 es1 (SetTable.grown es1.size)).2.2
      storeSet a (relayAll t2 es1 (SetTable.grown es1.size)).1 (relayAll t2 es1 (SetTable.grown es1.size)).2.1
      pure (some true)
     else pure (some true)) R E s := by
 have hs1 : es1.size ≤ sizeLine := fits_of_scanBound (Nat.lt_of_le_of_lt h6 hn)
 refine wpAny_bind (wpAny_storeSet_of ho hd ?_ hs1)
 obtain ⟨ho1, hS1⟩ := SetI.store (prog := prog) (w := w) ho hex hd h1 h2 h3 h4 h5 h6
 have sb1 := Heap.SameBut.update s.heap a (Obj.putSet es1 t2)
 cases c with
 | false =>
  rw [if_neg (by decide)]
  exact wpAny_pure (h _ sb1 hS1)
 | true =>
  rw [if_pos rfl]
  have hp := relayAll_perm t2 es1 (SetTable.grown es1.size)
  have hf := relayAll_fits t2 es1 (SetTable.grown es1.size)
  have ht := h1.relay es1 (SetTable.grown es1.size)
  generalize relayAll t2 es1 (SetTable.grown es1.size) = Rl at hp hf ht ⊢
  obtain ⟨es2, t3, gave⟩ := Rl
  dsimp only at hp hf ht ⊢
  have hz : es2.size = es1.size := by rw [← Array.length_toList, hp.length_eq, Array.length_toList]
  refine wpAny_bind (hg _ _ _ (wpAny_bind (wpAny_storeSet_of ho1 rfl ?_ (by rw [hz]; exact hs1))))
  have kp := hp.map Zdw
  obtain ⟨_, hS2⟩ := SetI.store (prog := prog) (w := w) (S := S) (n := n) ho1 hex rfl ht hf (h3.perm hp) (kp.nodup_iff.mpr h4) (fun k => (kp.mem_iff).trans (h5 k)) (by rw [hz]; exact h6)
  exact wpAny_pure (h _ (sb1.trans (Heap.SameBut.update _ a _)) hS2)
theorem ZjJ {a : Addr} {S : Int → Prop} {n : Nat} {k : Int} {tk : Tok} {Q : Bool → Shared → Prop} (hS : SetI prog w s.heap a S n) (hn : n + 1 < scanBound) (h : ∀ h' r, Heap.SameBut a s.heap h' → SetI prog w h' a (fun k' => S k' ∨ k' = k) (n + 1) → Q r { s with heap := h' }) :
  wpAny (model prog w) A (setAddHashed a (.int k tk) ((intKind prog w).hash k)) Q E s := by
 obtain ⟨o, es, ep, t, ho, hex, hd, hT, hf, hA, hN, hM, hz⟩ := hS
 have hb : es.size < scanBound := by omega
 unfold setAddHashed setAddHashedIn
 refine wpAny_holding (wpAny_bind (wpAny_setState_of ho hd hf ?_))
 dsimp only
 rw [byScan_of (x := .int k tk) rfl hb hA.elems]
 simp only [↓reduceIte]
 unfold setAddByScan
 refine wpAny_bind (wpAny_bind (wpAny_rule (wpAny_bind (wpAny_setScan_of (intKind_is _ _ k tk) ho hd hf hA.elems ?_))))
 cases hr : List.findIdx? (fun e => (intKind prog w).is k e.2) es.toList with
 | some j =>
  dsimp only
  have hk := Zig hA hr
  refine wpAny_pure (wpAny_pure ?_)
  have := h s.heap false (Heap.SameBut.refl a s.heap) ⟨o, es, ep, t, ho, hex, hd, hT, hf, hA, hN, fun k' => (hM k').trans ⟨.inl, fun z => z.elim id fun e => (hM k').mp (e ▸ hk)⟩, Nat.le_succ_of_le hz⟩
  exact this
 | none =>
  dsimp only
  have hk := Zih hA hr
  have hperm := layNew_perm t es ((intKind prog w).hash k) (.int k tk)
  have hfits := layNew_fits t es ((intKind prog w).hash k) (.int k tk)
  have htab := hT.lay es ((intKind prog w).hash k) (.int k tk)
  generalize layNew t es ((intKind prog w).hash k) (.int k tk) = Ly at hperm hfits htab ⊢
  obtain ⟨es1, t1, wasD, gave⟩ := Ly
  dsimp only at hperm hfits htab ⊢
  rw [Array.toList_push] at hperm
  have kp : (es1.toList.map Zdw).Perm (es.toList.map Zdw ++ [k]) := by have := hperm.map Zdw; rw [List.map_append] at this; exact this
  have hA1 : AllI prog w es1.toList := fun e he => by
   rcases List.mem_append.mp (hperm.mem_iff.mp he) with he | he
   ·exact hA e he
   ·rw [List.mem_singleton.mp he]; exact ⟨k, tk, rfl, rfl⟩
  have hN1 : (es1.toList.map Zdw).Nodup := kp.nodup_iff.mpr (List.nodup_append.mpr ⟨hN, by simp, fun x hx y hy => by rw [List.mem_singleton.mp hy]; intro e; exact hk (e ▸ hx)⟩)
  have hM1 : ∀ k', k' ∈ es1.toList.map Zdw ↔ (S k' ∨ k' = k) := fun k' => by rw [kp.mem_iff, List.mem_append, hM k', List.mem_singleton]
  have hz1 : es1.size ≤ n + 1 := by rw [← Array.length_toList, hperm.length_eq, List.length_append, Array.length_toList]; simpa using hz
  have gw : ∀ (b : Bool) (s₁ : Shared) (Q' : Unit → Shared → Prop), Q' () s₁ → wpAny (model prog w) A (match b with | true => rule "set.scan.the-table-gave-way" | false => pure ()) Q' E s₁ :=
   fun b s₁ Q' hq => by cases b <;> first | exact wpAny_pure hq | exact wpAny_rule hq
  refine wpAny_bind (gw _ _ _ ?_)
  have fin : ∀ h', Heap.SameBut a s.heap h' → SetI prog w h' a (fun k' => S k' ∨ k' = k) (n + 1) → Q true { s with heap := h' } := fun h' => h h' true
  split
  ·refine wpAny_bind ?_
   rw [hashByValue_scannable 8 (x := .int k tk) rfl]
   refine wpAny_pure ?_
   refine ZiJ (fun b s₁ Q' hq => by cases b <;> first | exact wpAny_pure hq | exact wpAny_rule hq) ho hex hd (S := fun k' => S k' ∨ k' = k) (n := n + 1) ?_ ?_ hA1 hN1 hM1 hz1 hn fun h' sb x => wpAny_pure (fin h' sb x)
   ·exact htab
   ·exact hfits
  ·refine wpAny_bind (wpAny_pure ?_)
   simp only [↓reduceIte]
   exact ZiJ (fun b s₁ Q' hq => by cases b <;> first | exact wpAny_pure hq | exact wpAny_rule hq) ho hex hd (S := fun k' => S k' ∨ k' = k) (n := n + 1) htab hfits hA1 hN1 hM1 hz1 hn fun h' sb x => wpAny_pure (fin h' sb x)
end
end My
namespace My
open PySem PySem.Spec
open PyProof.Rows hiding St
section
variable {prog : Program} {w : World} {A : Around} {R : Result → Shared → Prop} {I : Addr} {fp wr : List Addr} {G : Array GenState → Array GenState → Prop} {P : Nat → Value → Prop} {St : Nat → Shared → Prop}
theorem ZeN {ns : List Int} {i : Nat} {v k : Int} (h : ns[i]? = some v) : k ∈ ns.take (i + 1) ↔ k ∈ ns.take i ∨ k = v := by
 rw [List.take_add_one, h, List.mem_append]
 simp
theorem ZkQ {ns : List Int} (W : WalksS prog w A.in1 I fp wr G ns.length P St) (S : Addr) (hSf : S ∉ fp) (hval : ∀ i v, P i v → ∃ k t, ns[i]? = some k ∧ v = .int k t) (hb : ns.length + 1 < scanBound) :
  ∀ (k i : Nat) (s : Shared), ns.length - i = k → i ≤ ns.length → St i s → SetI prog w s.heap S (· ∈ ns.take i) i →
   (∀ s', Moved (S :: wr) G s s' → SetI prog w s'.heap S (· ∈ ns) ns.length → R (.ok (.ret .none)) s') → codeAny (model prog w) A (.builtin "set.update.loop" ⟨[.ref S, .ref I], []⟩) R s := by
 have hSw : S ∉ wr := fun h => hSf (W.sub _ h)
 have hsub : ∀ b ∈ wr, b ∈ S :: wr := fun b hb => List.mem_cons_of_mem _ hb
 intro k
 induction k with
 | zero =>
  intro i s hk hi hst hS hR
  obtain rfl : i = ns.length := by omega
  refine codeAny_builtin F.entry_set_update_loop ?_
  rw [Around.under_plainId F.plain_set_update_loop _]
  show wpAny _ A.in1 (pyNext (.ref I) >>= _) _ _ s
  refine wpAny_bind (W.done s _ _ hst fun s' hm => ?_)
  show wpAny _ A.in1 (ret Value.none) _ _ s'
  rw [List.take_length] at hS
  exact wpAny_pure (hR s' (hm.mono hsub) (hS.keep fun o ho => hm.heap S _ hSw ho))
 | succ k ih =>
  intro i s hk hi hst hS hR
  have hlt : i < ns.length := by omega
  refine codeAny_builtin F.entry_set_update_loop ?_
  rw [Around.under_plainId F.plain_set_update_loop _]
  show wpAny _ A.in1 (pyNext (.ref I) >>= _) _ _ s
  refine wpAny_bind (W.item i s _ _ hlt hst fun v s' hP hst' hm => ?_)
  obtain ⟨z, t, hz, rfl⟩ := hval i v hP
  have hS' := hS.keep (fun o ho => hm.heap S _ hSw ho)
  show wpAny _ A.in1 (holding [Value.int z t] (setAdd S (.int z t)) >>= _) _ _ s'
  refine wpAny_bind (wpAny_holding ?_)
  unfold setAdd
  refine wpAny_holding (wpAny_bind ((intKind prog w).pyHash (k := z) (intKind_is _ _ _ _) ?_))
  refine ZjJ (s := { s' with toks := s'.toks + 1 }) hS' (by omega) fun h' r hsb hS2 => ?_
  have hSi : SetI prog w h' S (· ∈ ns.take (i + 1)) (i + 1) := by
   rw [show (· ∈ ns.take (i + 1)) = (fun k' => k' ∈ ns.take i ∨ k' = z) from funext fun k' => propext (ZeN hz)]
   exact hS2
  refine wpAny_pure ⟨plainId_quiet F.plain_set_update_loop _, ih (i + 1) _ (by omega) hlt (W.frame _ s' _ _ hst' (Nat.le_succ _) fun b hb o e => ?_) hSi fun s'' hm'' hS'' => ?_⟩
  ·rw [hsb.2 b (fun h : b = S => hSf (by rw [← h]; exact hb))]; exact e
  ·refine hR s'' (Moved.trans W.gtrans ((hm.mono hsub).then_heap (Nat.le_succ _) fun b o hb e => ?_) hm'') hS''
   rw [hsb.2 b (fun h : b = S => hb (by rw [h]; exact List.mem_cons_self))]; exact e
end
section
variable {prog : Program} {w : World} {A : Around} {E : Value → Shared → Prop} {s : Shared}
abbrev ZaM (w : World) : Obj := { cls := .type "set", dict := none, data := .set #[] 0 (.fresh 0 0 (!byT w)) }
theorem ZjB (a : Value) {Q₁ : Value → Shared → Prop} (h : Q₁ (.ref s.heap.objs.size) { s with heap := s.heap.push (ZaM w) }) :
  codeAny (model prog w) A (.call (.builtin "set.__new__") ⟨[.type "set", a], []⟩) (wants Q₁ E) s := by
 refine codeAny_of_tree ?_
 show wpAny _ A.in1 (do checkBuiltinCall "set.__new__" ⟨[.type "set", a], []⟩; again (.builtin "set.__new__" ⟨[.type "set", a], []⟩)) _ _ s
 refine wpAny_bind (wpAny_of_eq (F.newCall_set_1 a) (wpAny_pure ⟨plainId_quiet F.plain_set_new _, codeAny_builtin F.entry_set_new ?_⟩))
 rw [Around.under_plainId F.plain_set_new _]
 unfold Builtin.«set.__new__» Builtin.Frozenset.newClass
 have hsub := sub_set_self
 obtain ⟨hp, g, d, tk, os⟩ := s
 dsimp only
 wp_walk
 refine wpAny_askSetting (wpAny_pure ?_)
 dsimp only
 simp only [newObj]
 exact wpAny_bind (wpAny_alloc (wpAny_pure (wpAny_pure h)))
theorem SetI.fresh {h : Heap} {a : Addr} (e : h.get? a = some (ZaM w)) : SetI prog w h a (· ∈ ([] : List Int)) 0 :=
 ⟨_, #[], 0, _, e, ⟨rfl, rfl, rfl⟩, rfl, ⟨List.Pairwise.nil, rfl, rfl⟩, rfl, (fun e he => by simp at he), List.nodup_nil, fun k => by simp, Nat.le_refl _⟩
set_option maxHeartbeats 3200000 in
theorem Zf2 {l : Addr} {items : Array Value} {ns : List Int} {Q : Value → Shared → Prop} (hh : A.handled = none) (hl : s.heap.IsList l items) (hi : IntsAre items.toList ns) (hb : ns.length + 1 < scanBound)
  (h : ∀ (h' : Heap) (tk : Nat), SetI prog w h' s.heap.objs.size (· ∈ ns) ns.length → (∀ b o, s.heap.get? b = some o → h'.get? b = some o) → Q (.ref s.heap.objs.size) { s with heap := h', toks := tk }) :
  wpAny (model prog w) A (call (.type "set") [.ref l]) Q E s := by
 obtain ⟨c, tl, hmro⟩ := F.called_set.mro
 have hmade := F.called_set.made
 have hsub := F.called_set.sub
 refine wpAny_call (codeAny_of_tree ?_)
 show wpAny _ _ (callAny (.type "set") _) _ _ _
 refine wpAny_pure ⟨Code.quiet_builtin _ (by decide +kernel), codeAny_builtin F.entry_type_call ?_⟩
 rw [Around.under_plain (weight_type_call_type "set" [.ref l] []) rfl]
 have h1 := F.called_set.notType
 have h2 := F.called_set.canCreate
 have hct := F.typeCall_set_1 (.ref l)
 repeat (any_goals (first | assumption | wp_step))
 refine codeAny_mono (ZjB (.ref l) (E := E) (Q₁ := fun obj s₁ => obj = .ref s.heap.objs.size ∧ s₁ = { s with heap := s.heap.push (ZaM w) }) ⟨rfl, rfl⟩) fun r s₁ hr => ?_
 cases r with
 | error e => exact hr
 | ok fl =>
  cases fl with
  | ret obj =>
   obtain ⟨rfl, rfl⟩ := hr
   have hS : (s.heap.push (ZaM w)).get? s.heap.objs.size = some (ZaM w) := Heap.get?_push_size _ rfl
   have hT : Shared.TypeIs { s with heap := s.heap.push (ZaM w) } (.ref s.heap.objs.size) "set" := ⟨_, hS, rfl⟩
   have hli := F.called_set.init.lookup
   have hbi := F.called_set.init.bind (.ref s.heap.objs.size)
   repeat (any_goals (first | assumption | wp_step))
   refine codeAny_mono (codeAny_call_builtin (R := wants (fun r s₂ => r = .none ∧ ∃ h' tk, s₂ = { s with heap := h', toks := tk } ∧ SetI prog w h' s.heap.objs.size (· ∈ ns) ns.length ∧ (∀ b o, s.heap.get? b = some o → h'.get? b = some o)) E)
    F.called_set.init.plain F.entry_set_init (check_set_init_1 hT ?_)) fun r₂ s₂ hr₂ => ?_
   ·obtain ⟨ol, hol, hcl, nl, hdl⟩ := hl
    obtain ⟨ocls, odict, odata, oslots⟩ := ol
    simp only at hcl hdl
    subst hcl; subst hdl
    have hol' : (s.heap.push (ZaM w)).get? l = some { cls := .type "list", dict := odict, data := .seq items nl, slots := oslots } := Heap.get?_push_of_some _ hol
    have hsls := F.sub_list_set
    have hslf := F.sub_list_frozenset
    have hne : (Value.type "list" == Value.type "dict") = false := by decide
    have hl1 : (s.heap.push (ZaM w)).IsList l items := ⟨_, hol', rfl, nl, rfl⟩
    have hsz : items.size = ns.length := by rw [← Array.length_toList]; exact IntsAre.length hi
    unfold Builtin.«set.__init__» noKeywords Builtin.Frozenset.updateFrom
    generalize hPI : pyIter = PI
    wp_walk
    subst hPI
    refine wpAny_pyIter_list hl1 (wpAny_bind (wpAny_runValue ?_))
    have hlS : l < s.heap.objs.size := Heap.lt_size hol
    have hz1 : (s.heap.push (ZaM w)).objs.size = s.heap.objs.size + 1 := Heap.size_push ..
    have hneI : l ≠ (s.heap.push (ZaM w)).objs.size := by rw [hz1]; exact Nat.ne_of_lt (Nat.lt_succ_of_lt hlS)
    have hSf : s.heap.objs.size ∉ [(s.heap.push (ZaM w)).objs.size, l] := by
     rw [hz1]; simp only [List.mem_cons, List.not_mem_nil, or_false, not_or]; exact ⟨Nat.ne_of_lt (Nat.lt_succ_self _), Nat.ne_of_gt hlS⟩
    have W := (Walks.list (prog := prog) (w := w) (A := A.in1.in1.in1) (by simp [hh]) _ l hneI items).toS
    rw [hsz] at W
    refine ZkQ W s.heap.objs.size hSf (fun i v hv => ?_) hb ns.length 0 _ (by omega) (Nat.zero_le _) ⟨⟨_, Heap.get?_push_size _ rfl, rfl, rfl⟩, (hl1.push _)⟩ (SetI.fresh (Heap.get?_push_of_some _ hS)) fun s' hm hS' => ?_
    ·have hlt : i < ns.length := by rw [← hsz]; exact (Array.getElem?_eq_some_iff.mp hv).1
     obtain ⟨t, e⟩ := IntsAre.int_at hi i v (by rw [Array.getElem?_toList]; exact hv)
     exact ⟨ns[i], t, List.getElem?_eq_getElem hlt, by rw [e, List.getD_eq_getElem?_getD, List.getElem?_eq_getElem hlt]; rfl⟩
    ·obtain ⟨h', g', d', tk', os'⟩ := s'
     have eg : g' = s.gens := hm.gens
     have ed : d' = s.drawn := hm.drawn
     have eo : os' = s.os := hm.os
     subst eg; subst ed; subst eo
     show wpAny _ _ _ _ _ _
     refine wpAny_pure ?_
     show wpAny _ _ (ret Value.none) _ _ _
     refine wpAny_pure ⟨rfl, h', tk', rfl, hS', fun b o e => ?_⟩
     have hb := Heap.lt_size e
     exact hm.heap b o (by rw [hz1]; simp only [List.mem_cons, List.not_mem_nil, or_false, not_or]; exact ⟨Nat.ne_of_lt hb, Nat.ne_of_lt (Nat.lt_succ_of_lt hb)⟩) (Heap.get?_push_of_some _ (Heap.get?_push_of_some _ e))
   ·cases r₂ with
    | error e => exact hr₂
    | ok fl₂ =>
     cases fl₂ with
     | ret r =>
      obtain ⟨rfl, h', tk, rfl, hS', hk'⟩ := hr₂
      repeat (any_goals (first | assumption | wp_step))
      exact h _ _ hS' hk'
     | _ => exact hr₂.elim
  | _ => exact hr.elim
end
end My
namespace My
open PySem PySem.Spec
open PyProof.Rows hiding St
theorem ZdL : Manifest.owners.lookup (String.ofList ['r', 'o', 't', 'a', 'r', 'e', 't', 'i', '_', 't', 'e', 's'].reverse) = some Manifest.sig_set_iterator := by kernel_rfl
theorem slot_setit_next : Slot "set_iterator" "__next__" "set_iterator.__next__" :=
 .of (owner := "set_iterator") (n := "__next__") (by rw [typeLookup_type, builtinLookup_eq_fast]; kernel_rfl) (by decide +kernel) (by decide +kernel) (by decide +kernel)
  (by first | exact .inl (by decide +kernel) | exact .inr (by decide +kernel)) (by rw [isSubtype_type]; kernel_rfl)
theorem Za9 : entryFor table "set_iterator.__next__" = some Builtin.«set_iterator.__next__» := entryFor_of_tree (by kernel_rfl)
theorem Zbh (a : Value) : argsOk "set_iterator.__next__" ⟨[a], []⟩ := by
 unfold argsOk; rw [signature?_of (id := "set_iterator.__next__") (n := ['_', '_', 't', 'x', 'e', 'n', '_', '_']) (o := ['r', 'o', 't', 'a', 'r', 'e', 't', 'i', '_', 't', 'e', 's']) (by kernel_rfl) ZdL]; kernel_rfl
theorem Zce : Slot "set_iterator" "__iter__" "set_iterator.__iter__" :=
 .of (owner := "set_iterator") (n := "__iter__") (by rw [typeLookup_type, builtinLookup_eq_fast]; kernel_rfl) (by decide +kernel) (by decide +kernel) (by decide +kernel)
  (by first | exact .inl (by decide +kernel) | exact .inr (by decide +kernel)) (by rw [isSubtype_type]; kernel_rfl)
theorem Zeg : entryFor table "set.__iter__" = some Builtin.«frozenset.__iter__» :=
 entryFor_alias (id' := "frozenset.__iter__") (by kernel_rfl) rfl (by decide +kernel) (by kernel_rfl)
theorem Zdo : entryFor table "set_iterator.__iter__" = some Builtin.«dict_keyiterator.__iter__» :=
 entryFor_alias (id' := "dict_keyiterator.__iter__") (by kernel_rfl) rfl (by decide +kernel) (by kernel_rfl)
theorem Zd0 (a : Value) : argsOk "set_iterator.__iter__" ⟨[a], []⟩ := by
 unfold argsOk; rw [signature?_of (id := "set_iterator.__iter__") (n := ['_', '_', 'r', 'e', 't', 'i', '_', '_']) (o := ['r', 'o', 't', 'a', 'r', 'e', 't', 'i', '_', 't', 'e', 's']) (by kernel_rfl) ZdL]; kernel_rfl
theorem Zex {α : Type} {l : List α} {i : Nat} (h : i < l.length) : (l[i] :: l.eraseIdx i).Perm l := by
 rw [List.eraseIdx_eq_take_drop_succ]
 have e : l = l.take i ++ l[i] :: l.drop (i + 1) := by rw [List.getElem_cons_drop, List.take_append_drop]
 conv => rhs; rw [e]
 exact List.perm_middle.symm
section
variable {prog : Program} {w : World} {A : Around} {E : Value → Shared → Prop} {s : Shared}
theorem Zij {src : Source} {n : Nat} {Q : Nat → Shared → Prop} (hn : n ≠ 0) (h : ∀ k d, k < n → Q k { s with drawn := d }) : wpAny (model prog w) A (choose src n) Q E s :=
 fun _ _ _ => ⟨hn, h _ _ (Nat.mod_lt _ (Nat.pos_of_ne_zero hn))⟩
theorem ZcX {Q : Bool → Shared → Prop} (h : Q (byT w) s) : wpAny (model prog w) A setsByText Q E s := by
 unfold setsByText
 exact wpAny_bind (wpAny_askSetting (wpAny_pure h))
theorem Zft {α : Type} : ∀ (n : Nat) (xs : List α) (s : Shared) {Q : List α → Shared → Prop}, xs.length ≤ n → (∀ ys d, ys.Perm xs → Q ys { s with drawn := d }) → wpAny (model prog w) A (drawOrder n xs) Q E s := by
 intro n
 induction n with
 | zero =>
  intro xs s Q hl h
  have : xs = [] := List.length_eq_zero_iff.mp (by omega)
  subst this
  unfold drawOrder
  exact wpAny_pure (h [] s.drawn .nil)
 | succ n ih =>
  intro xs s Q hl h
  cases xs with
  | nil => unfold drawOrder; exact wpAny_pure (h [] s.drawn .nil)
  | cons x xs =>
   unfold drawOrder
   refine wpAny_bind (Zij (by simp) fun k d hk => ?_)
   have e := List.getElem?_eq_getElem hk
   rw [e]
   dsimp only
   refine wpAny_bind (ih _ _ (by rw [List.length_eraseIdx, if_pos hk]; simp at hl ⊢; omega) fun ys d' hp => ?_)
   exact wpAny_pure (h _ d' ((hp.cons _).trans (Zex hk)))
theorem pick_go {α : Type} (f : Nat → Nat) : ∀ (n k : Nat) (xs : List α) (out : Array α), xs.length ≤ n → (pickOrder.go f n k xs out).toList.Perm (out.toList ++ xs) := by
 intro n
 induction n with
 | zero =>
  intro k xs out hl
  have : xs = [] := List.length_eq_zero_iff.mp (by omega)
  subst this
  unfold pickOrder.go
  simp
 | succ n ih =>
  intro k xs out hl
  unfold pickOrder.go
  cases xs with
  | nil => simp
  | cons x xs =>
   have hk : f k % (x :: xs).length < (x :: xs).length := Nat.mod_lt _ (by simp)
   rw [List.getElem?_eq_getElem hk]
   dsimp only
   refine (ih _ _ _ (by rw [List.length_eraseIdx, if_pos hk]; simp at hl ⊢; omega)).trans ?_
   rw [Array.toList_push, List.append_assoc]
   exact List.Perm.append_left _ (Zex hk)
theorem Zje {α : Type} (f : Nat → Nat) (xs : Array α) : (pickOrder f xs).toList.Perm xs.toList := by
 unfold pickOrder
 exact (pick_go f _ _ _ _ (by simp)).trans (by simp)
def SN (prog : Program) (w : World) (a : Addr) (o : Obj) (ep : Nat) (f : Nat → Nat) (L : List Value) : Prop :=
 ∀ (A : Around) (E : Value → Shared → Prop) (s : Shared) (Q : Option (Value × Nat) → Shared → Prop) (i : Nat), i ≤ L.length → s.heap.get? a = some o → Q ((L[i]?).map fun v => (v, f (i + 1))) s → wpAny (model prog w) A (setNext a (f i) i ep) Q E s
theorem sn_text {a : Addr} {o : Obj} {es : Array (Int × Value)} {ep : Nat} {t : SetTable} (hd : o.data = .set es ep t) (hf : t.fits es.size = true) (hb : byT w = true) : SN prog w a o ep (fun _ => 0) ((pickOrder (w.params.setOrder a ep) es).toList.map (·.2)) := by
 intro A E s Q i hi ho h
 unfold setNext
 refine wpAny_bind (wpAny_setState_of ho hd hf ?_)
 dsimp only
 refine wpAny_bind (ZcX ?_)
 rw [hb, if_pos rfl, if_neg (by simp)]
 unfold setWalk
 refine wpAny_bind (wpAny_bind (wpAny_setState_of ho hd hf ?_))
 dsimp only
 refine wpAny_bind (ZcX ?_)
 rw [hb, if_pos rfl]
 refine wpAny_bind (wpAny_askSetting (wpAny_pure (wpAny_pure ?_)))
 rw [List.getElem?_map, Array.getElem?_toList, Option.map_map] at h
 exact h
def Zdg (p : Array Nat) (i : Nat) : Nat := match i with
 | 0 => 0
 | i + 1 => p.getD i 0 + 1
theorem Zfw {p : Array Nat} (h : Rise p.toList) {i : Nat} (hi : i ≤ p.size) : SetTable.below p (Zdg p i) = i := by
 obtain ⟨h1, h2, h3⟩ := Zep p (Zdg p i) h
 generalize SetTable.below p (Zdg p i) = b at h1 h2 h3
 rcases Nat.lt_trichotomy b i with c | c | c
 ·have hb : b < p.size := by omega
  have e := Array.getElem?_eq_getElem hb
  have h4 := h3 _ _ (Nat.le_refl b) e
  cases i with
  | zero => omega
  | succ i =>
   have hi' : i < p.size := by omega
   have e2 := Array.getElem?_eq_getElem hi'
   have hs : Zdg p (i + 1) = p[i] + 1 := by show p.getD i 0 + 1 = _; rw [Array.getD_eq_getD_getElem?, e2]; rfl
   rw [hs] at h4
   by_cases c2 : b = i
   ·subst c2; omega
   ·have := h.at (by rw [Array.getElem?_toList]; exact e) (by rw [Array.getElem?_toList]; exact e2) (show b < i by omega)
    omega
 ·exact c
 ·have hi' : i < p.size := by omega
  have e := Array.getElem?_eq_getElem hi'
  have h4 := h2 _ _ c e
  cases i with
  | zero => exact absurd h4 (Nat.not_lt_zero _)
  | succ i =>
   have hi2 : i < p.size := by omega
   have e2 := Array.getElem?_eq_getElem hi2
   have hs : Zdg p (i + 1) = p[i] + 1 := by show p.getD i 0 + 1 = _; rw [Array.getD_eq_getD_getElem?, e2]; rfl
   rw [hs] at h4
   have := h.at (by rw [Array.getElem?_toList]; exact e2) (by rw [Array.getElem?_toList]; exact e) (Nat.lt_succ_self i)
   omega
theorem Zlp {a : Addr} {o : Obj} {es : Array (Int × Value)} {ep : Nat} {t : SetTable} (hd : o.data = .set es ep t) (hf : t.fits es.size = true) (hT : TOk (!byT w) t) (hb : byT w = false) (hp : (!t.plain && decide (es.size > 1)) = false) :
  SN prog w a o ep (Zdg t.place) (es.toList.map (·.2)) := by
 intro A E s Q i hi ho h
 have hz : t.place.size = es.size := by simp only [SetTable.fits, Bool.and_eq_true, beq_iff_eq] at hf; exact hf.1
 have hl : t.led = true := by rw [hT.2.2, hb]; rfl
 unfold setNext
 refine wpAny_bind (wpAny_setState_of ho hd hf ?_)
 dsimp only
 refine wpAny_bind (ZcX ?_)
 rw [hb, if_neg (by decide)]
 refine wpAny_ite_split (fun c => absurd (hp.symm.trans c) (by decide)) (fun _ => ?_)
 refine wpAny_bind ?_
 show wpAny _ _ (if (!t.led && !es.isEmpty) = true then unsupported _ else pure ()) _ _ _
 rw [hl, if_neg (by simp)]
 refine wpAny_pure (wpAny_pure ?_)
 rw [Zfw hT.1 (by rw [hz]; simpa using hi)]
 rw [List.getElem?_map, Array.getElem?_toList] at h
 by_cases c : i < es.size
 ·have e := Array.getElem?_eq_getElem c
  have e2 := Array.getElem?_eq_getElem (show i < t.place.size by rw [hz]; exact c)
  rw [e, e2]
  rw [e] at h
  have hs : Zdg t.place (i + 1) = t.place[i] + 1 := by show t.place.getD i 0 + 1 = _; rw [Array.getD_eq_getD_getElem?, e2]; rfl
  rw [hs] at h
  exact h
 ·rw [Array.getElem?_eq_none (by omega)] at h ⊢
  exact h
abbrev Zej (f : Value) (i : Nat) (a : Addr) (n ep : Nat) : Obj := { cls := .type "set_iterator", dict := none, data := .fields #[f, .int i 0, .ref a, .int n 0, .int ep 0], slots := #[] }
theorem Zjt {I a : Addr} {o : Obj} {es : Array (Int × Value)} {ep : Nat} {t : SetTable} {f : Nat → Nat} {L : List Value} {i : Nat} {v : Value} {Q : Option Value → Shared → Prop} (hne : I ≠ a) (hd : o.data = .set es ep t) (hf : t.fits es.size = true) (hsn : SN prog w a o ep f L) (hl : L.length = es.size)
  (hit : s.heap.get? I = some (Zej (.int (f i) 0) i a es.size ep)) (ho : s.heap.get? a = some o) (hi : L[i]? = some v)
  (h : ∀ h', h'.get? I = some (Zej (.int (f (i + 1)) 0) (i + 1) a es.size ep) → Heap.SameBut I s.heap h' → Q (some v) { s with heap := h' }) : wpAny (model prog w) A (pyNext (.ref I)) Q E s := by
 have hty : s.TypeIs (.ref I) "set_iterator" := ⟨_, hit, rfl⟩
 unfold pyNext
 refine wpAny_bind (wpAny_attempt (wpAny_callSpecial?_slot (name := Str.ofString "__next__") hty slot_setit_next (wpAny_call_entry slot_setit_next hty Za9 ?_ (Zbh _))))
 unfold Builtin.«set_iterator.__next__»
 refine wpAny_bind (wpAny_pure ?_)
 refine wpAny_bind (wpAny_fieldsOf hit rfl ?_)
 dsimp only
 refine wpAny_bind (wpAny_setEntries_of ho hd hf ?_)
 rw [if_neg (by simp)]
 have hil : i < L.length := (List.getElem?_eq_some_iff.mp hi).1
 refine wpAny_bind (hsn _ _ s _ i (Nat.le_of_lt hil) ho ?_)
 rw [hi]
 dsimp only [Option.map]
 refine wpAny_bind (wpAny_setField_rec hit (by simp) fun h1 g1 sb1 => ?_)
 refine wpAny_bind (wpAny_setField_rec (s := { s with heap := h1 }) g1 (by simp) fun h2 g2 sb2 => ?_)
 refine wpAny_pure ⟨_, rfl, wpAny_pure (h h2 ?_ (sb1.trans sb2))⟩
 rw [g2]
 simp [rawInt]
theorem Zkd {I a : Addr} {o : Obj} {es : Array (Int × Value)} {ep : Nat} {t : SetTable} {f : Nat → Nat} {L : List Value} {Q : Option Value → Shared → Prop} (hh : A.handled = none) (hd : o.data = .set es ep t) (hf : t.fits es.size = true) (hsn : SN prog w a o ep f L) (hl : L.length = es.size)
  (hit : s.heap.get? I = some (Zej (.int (f L.length) 0) L.length a es.size ep)) (ho : s.heap.get? a = some o) (h : ∀ h', Heap.ExtBut I s.heap h' → Q none { s with heap := h' }) : wpAny (model prog w) A (pyNext (.ref I)) Q E s := by
 have hty : s.TypeIs (.ref I) "set_iterator" := ⟨_, hit, rfl⟩
 unfold pyNext
 refine wpAny_bind (wpAny_attempt (wpAny_callSpecial?_slot (name := Str.ofString "__next__") hty slot_setit_next (wpAny_call_entry slot_setit_next hty Za9 ?_ (Zbh _))))
 unfold Builtin.«set_iterator.__next__»
 refine wpAny_bind (wpAny_pure ?_)
 refine wpAny_bind (wpAny_fieldsOf hit rfl ?_)
 dsimp only
 refine wpAny_bind (wpAny_setEntries_of ho hd hf ?_)
 rw [if_neg (by simp)]
 refine wpAny_bind (hsn _ _ s _ L.length (Nat.le_refl _) ho ?_)
 rw [List.getElem?_eq_none (Nat.le_refl _)]
 dsimp only [Option.map]
 refine wpAny_bind (wpAny_setField_rec hit (by simp) fun h1 g1 sb1 => ?_)
 refine wpAny_bind ?_
 simp only [newExc, newTuple]
 refine wpAny_bind (wpAny_newObj_type ?_ (by size_fits))
 refine wpAny_bind (m := firstArgMember _ _) (wpAny_of_eq (a := Value.none) (by first | rfl | (simp only [firstArgMember]; rfl)) ?_)
 refine wpAny_newObj_type ?_ (by size_fits)
 simp only [raiseNew]
 refine wpAny_bind (wpAny_handled ?_)
 rw [show A.in1.handled = none from hh]
 refine wpAny_bind (wpAny_pure (wpAny_throw ?_))
 refine wpAny_bind (wpAny_isInstance (T := "StopIteration") (b := true) ⟨_, Heap.get?_push_size _ rfl, rfl⟩ isSubtype_stop ?_)
 exact wpAny_pure (h _ ((sb1.extBut.push _).push _))
theorem ZjQ {I a : Addr} {f : Value} {i n ep : Nat} {Q : Value → Shared → Prop} (hit : s.heap.get? I = some (Zej f i a n ep)) (h : Q (.ref I) s) : wpAny (model prog w) A (pyIter (.ref I)) Q E s := by
 have hty : s.TypeIs (.ref I) "set_iterator" := ⟨_, hit, rfl⟩
 refine wpAny_pyIter_slot hty Zce (wpAny_call_entry Zce hty Zdo ?_ (Zd0 _))
 show wpAny _ _ (ret (.ref I)) _ _ s
 exact wpAny_pure ⟨_, rfl, "set_iterator", _, hty, slot_setit_next.lookup, h⟩
theorem Zk5 (hh : A.handled = none) {I a : Addr} {o : Obj} {es : Array (Int × Value)} {ep : Nat} {t : SetTable} {f : Nat → Nat} {L : List Value} (hne : I ≠ a) (hd : o.data = .set es ep t) (hf : t.fits es.size = true) (hsn : SN prog w a o ep f L) (hl : L.length = es.size) :
  Walks prog w A I [I, a] [I] L.length (fun i v => L[i]? = some v) (fun i h => h.get? I = some (Zej (.int (f i) 0) i a es.size ep) ∧ h.get? a = some o) where
 sub := fun b hb => by simp only [List.mem_singleton] at hb; subst hb; simp
 frame := fun i h h' ⟨h1, h2⟩ hk => ⟨hk I (by simp) _ h1, hk a (by simp) _ h2⟩
 item := fun i s Q E hi ⟨h1, h2⟩ hQ => Zjt hne hd hf hsn hl h1 h2 (List.getElem?_eq_getElem hi) fun h' g sb => by
  have := hQ _ h' s.toks (List.getElem?_eq_getElem hi) ⟨g, by rw [sb.2 a (fun z => hne z.symm)]; exact h2⟩ fun b o hb e => by rw [sb.2 b (fun z => hb (by rw [z]; simp))]; exact e
  exact this
 done := fun s Q E ⟨h1, h2⟩ hQ => Zkd hh hd hf hsn hl h1 h2 fun h' x => by
  have := hQ h' s.toks fun b o hb e => x b o (fun z => hb (by rw [z]; simp)) e
  exact this
 self := fun i s Q E ⟨h1, h2⟩ hQ => ZjQ h1 hQ
theorem ZhE {I a T : Addr} {o oT : Obj} {es : Array (Int × Value)} {ep c : Nat} {t : SetTable} {ps : List Nat} {i p : Nat} {x : Int × Value} {Q : Option Value → Shared → Prop} (hd : o.data = .set es ep t) (hf : t.fits es.size = true) (hT : oT.data = .seq (ps.map fun k : Nat => rawInt k).toArray c)
  (hit : s.heap.get? I = some (Zej (.ref T) i a es.size ep)) (ho : s.heap.get? a = some o) (hoT : s.heap.get? T = some oT) (hi : ps[i]? = some p) (hx : es[p]? = some x)
  (h : ∀ h', h'.get? I = some (Zej (.ref T) (i + 1) a es.size ep) → Heap.SameBut I s.heap h' → Q (some x.2) { s with heap := h' }) : wpAny (model prog w) A (pyNext (.ref I)) Q E s := by
 have hty : s.TypeIs (.ref I) "set_iterator" := ⟨_, hit, rfl⟩
 unfold pyNext
 refine wpAny_bind (wpAny_attempt (wpAny_callSpecial?_slot (name := Str.ofString "__next__") hty slot_setit_next (wpAny_call_entry slot_setit_next hty Za9 ?_ (Zbh _))))
 unfold Builtin.«set_iterator.__next__»
 refine wpAny_bind (wpAny_pure ?_)
 refine wpAny_bind (wpAny_fieldsOf hit rfl ?_)
 dsimp only
 refine wpAny_bind (wpAny_setEntries_of ho hd hf ?_)
 rw [if_neg (by simp)]
 unfold seqItems?
 dsimp only
 refine wpAny_bind (wpAny_bind (wpAny_load hoT ?_))
 rw [hT]
 refine wpAny_pure ?_
 dsimp only
 rw [List.getElem?_toArray, List.getElem?_map, Int.toNat_natCast, hi]
 dsimp only [Option.map, rawInt]
 refine wpAny_bind ?_
 unfold setNextDrawn
 refine wpAny_bind (wpAny_setState_of ho hd hf ?_)
 dsimp only
 rw [if_neg (by simp), Int.toNat_natCast, hx]
 refine wpAny_pure ?_
 refine wpAny_bind (wpAny_setField_rec hit (by simp) fun h1 g1 sb1 => ?_)
 refine wpAny_pure ⟨_, rfl, wpAny_pure (h h1 ?_ sb1)⟩
 rw [g1]
 simp
theorem Zi5 {I a T : Addr} {o oT : Obj} {es : Array (Int × Value)} {ep c : Nat} {t : SetTable} {ps : List Nat} {Q : Option Value → Shared → Prop} (hh : A.handled = none) (hd : o.data = .set es ep t) (hf : t.fits es.size = true) (hT : oT.data = .seq (ps.map fun k : Nat => rawInt k).toArray c)
  (hit : s.heap.get? I = some (Zej (.ref T) ps.length a es.size ep)) (ho : s.heap.get? a = some o) (hoT : s.heap.get? T = some oT) (h : ∀ h', Heap.ExtBut I s.heap h' → Q none { s with heap := h' }) : wpAny (model prog w) A (pyNext (.ref I)) Q E s := by
 have hty : s.TypeIs (.ref I) "set_iterator" := ⟨_, hit, rfl⟩
 unfold pyNext
 refine wpAny_bind (wpAny_attempt (wpAny_callSpecial?_slot (name := Str.ofString "__next__") hty slot_setit_next (wpAny_call_entry slot_setit_next hty Za9 ?_ (Zbh _))))
 unfold Builtin.«set_iterator.__next__»
 refine wpAny_bind (wpAny_pure ?_)
 refine wpAny_bind (wpAny_fieldsOf hit rfl ?_)
 dsimp only
 refine wpAny_bind (wpAny_setEntries_of ho hd hf ?_)
 rw [if_neg (by simp)]
 unfold seqItems?
 dsimp only
 refine wpAny_bind (wpAny_bind (wpAny_load hoT ?_))
 rw [hT]
 refine wpAny_pure ?_
 dsimp only
 rw [List.getElem?_toArray, List.getElem?_map, Int.toNat_natCast, List.getElem?_eq_none (Nat.le_refl _)]
 dsimp only [Option.map]
 refine wpAny_bind (wpAny_setField_rec hit (by simp) fun h0 g0 sb0 => ?_)
 refine wpAny_bind (wpAny_setField_rec (s := { s with heap := h0 }) g0 (by simp) fun h1 g1 sb1 => ?_)
 refine wpAny_bind ?_
 simp only [newExc, newTuple]
 refine wpAny_bind (wpAny_newObj_type ?_ (by size_fits))
 refine wpAny_bind (m := firstArgMember _ _) (wpAny_of_eq (a := Value.none) (by first | rfl | (simp only [firstArgMember]; rfl)) ?_)
 refine wpAny_newObj_type ?_ (by size_fits)
 simp only [raiseNew]
 refine wpAny_bind (wpAny_handled ?_)
 rw [show A.in1.handled = none from hh]
 refine wpAny_bind (wpAny_pure (wpAny_throw ?_))
 refine wpAny_bind (wpAny_isInstance (T := "StopIteration") (b := true) ⟨_, Heap.get?_push_size _ rfl, rfl⟩ isSubtype_stop ?_)
 exact wpAny_pure (h _ (((sb0.trans sb1).extBut.push _).push _))
theorem Zgu (hh : A.handled = none) {I a T : Addr} {o oT : Obj} {es : Array (Int × Value)} {ep c : Nat} {t : SetTable} {ps : List Nat} (hne : I ≠ a) (hnT : I ≠ T) (hd : o.data = .set es ep t) (hf : t.fits es.size = true) (hT : oT.data = .seq (ps.map fun k : Nat => rawInt k).toArray c)
  (hps : ∀ (i p : Nat), ps[i]? = some p → p < es.size) :
  Walks prog w A I [I, a, T] [I] ps.length (fun i v => ∃ p x, ps[i]? = some p ∧ es[p]? = some x ∧ v = x.2) (fun i h => h.get? I = some (Zej (.ref T) i a es.size ep) ∧ h.get? a = some o ∧ h.get? T = some oT) where
 sub := fun b hb => by simp only [List.mem_singleton] at hb; subst hb; simp
 frame := fun i h h' ⟨h1, h2, h3⟩ hk => ⟨hk I (by simp) _ h1, hk a (by simp) _ h2, hk T (by simp) _ h3⟩
 item := fun i s Q E hi ⟨h1, h2, h3⟩ hQ => by
  have e := List.getElem?_eq_getElem hi
  have e2 := Array.getElem?_eq_getElem (hps i _ e)
  refine ZhE hd hf hT h1 h2 h3 e e2 fun h' g sb => ?_
  have := hQ _ h' s.toks ⟨_, _, e, e2, rfl⟩ ⟨g, by rw [sb.2 a (fun z => hne z.symm)]; exact h2, by rw [sb.2 T (fun z => hnT z.symm)]; exact h3⟩ fun b o hb e => by rw [sb.2 b (fun z => hb (by rw [z]; simp))]; exact e
  exact this
 done := fun s Q E ⟨h1, h2, h3⟩ hQ => Zi5 hh hd hf hT h1 h2 h3 fun h' x => by
  have := hQ h' s.toks fun b o hb e => x b o (fun z => hb (by rw [z]; simp)) e
  exact this
 self := fun i s Q E ⟨h1, h2⟩ hQ => ZjQ h1 hQ
theorem Zi4 : ∀ {es : List (Int × Value)}, AllI prog w es → IntsAre (es.map (·.2)) (es.map Zdw)
 | [], _ => .nil
 | e :: es, h => by
  obtain ⟨k, t, h1, _⟩ := h e (List.mem_cons_self ..)
  have h3 : Zdw e = k := by unfold Zdw; rw [h1]
  rw [List.map_cons, List.map_cons, h1, h3]
  exact .cons k t (Zi4 fun x hx => h x (List.mem_cons_of_mem _ hx))
theorem picked {es : Array (Int × Value)} : ∀ {ps : List Nat}, (∀ (i p : Nat), ps[i]? = some p → p < es.size) → ∀ vs : List Value, vs.length = ps.length → (∀ (i : Nat) v, vs[i]? = some v → ∃ p x, ps[i]? = some p ∧ es[p]? = some x ∧ v = x.2) → vs = (ps.filterMap (es[·]?)).map (·.2)
 | [], _, vs, hl, _ => by rw [List.length_eq_zero_iff.mp hl]; rfl
 | p :: ps, hps, vs, hl, hv => by
  cases vs with
  | nil => cases hl
  | cons v vs =>
   obtain ⟨p', x, e1, e2, rfl⟩ := hv 0 v rfl
   cases e1
   rw [List.filterMap_cons, e2]
   dsimp only
   rw [List.map_cons, ← picked (fun i p h => hps (i + 1) p h) vs (by simpa using hl) fun i v h => hv (i + 1) v h]
theorem ZkH {a : Addr} {S : Int → Prop} {n : Nat} {Q : Value → Shared → Prop} (hh : A.handled = none) (hS : SetI prog w s.heap a S n) (hn : n < scanBound)
  (h : ∀ (h' : Heap) d (I : Addr) (fp : List Addr) (m : Nat) (P : Nat → Value → Prop) (St : Nat → Heap → Prop), (∀ b o, s.heap.get? b = some o → h'.get? b = some o) → Walks prog w A I fp [I] m P St → St 0 h' → s.heap.objs.size ≤ I → (∀ b ∈ fp, b = a ∨ s.heap.objs.size ≤ b) → (∀ b ∈ fp, b < h'.objs.size) →
   m ≤ n → (∀ vs : List Value, vs.length = m → (∀ (i : Nat) v, vs[i]? = some v → P i v) → ∃ ks : List Int, IntsAre vs ks ∧ ks.Nodup ∧ ∀ k, k ∈ ks ↔ S k) → Q (.ref I) { s with heap := h', drawn := d }) :
  wpAny (model prog w) A (pyIter (.ref a)) Q E s := by
 obtain ⟨o, es, ep, t, ho, hex, hd, hT, hf, hA, hN, hM, hz⟩ := id hS
 have hty : s.TypeIs (.ref a) "set" := ⟨_, ho, hex.1⟩
 refine wpAny_pyIter_slot hty F.slot_set_iter (wpAny_call_entry F.slot_set_iter hty Zeg ?_ (F.args_set_iter_1 _))
 unfold Builtin.«frozenset.__iter__» Builtin.Frozenset.slot0 Builtin.Frozenset.sizeOf
 refine wpAny_bind (wpAny_bind (wpAny_pure (wpAny_pure ?_)))
 refine wpAny_bind (wpAny_bind (wpAny_setEntries_of ho hd hf (wpAny_pure ?_)))
 unfold setDrawn
 refine wpAny_bind (wpAny_bind (wpAny_setState_of ho hd hf ?_))
 dsimp only
 refine wpAny_bind (ZcX (wpAny_pure ?_))
 have hlt : a < s.heap.objs.size := Heap.lt_size ho
 have told : ∀ (es' : List (Int × Value)), es'.Perm es.toList → ∀ vs : List Value, vs = es'.map (·.2) → ∃ ks : List Int, IntsAre vs ks ∧ ks.Nodup ∧ ∀ k, k ∈ ks ↔ S k := fun es' hp vs hv =>
  ⟨es'.map Zdw, by rw [hv]; exact Zi4 (hA.perm hp), (hp.map Zdw).nodup_iff.mpr hN, fun k => ((hp.map Zdw).mem_iff).trans (hM k)⟩
 have plain : ∀ (f : Nat → Nat) (es' : List (Int × Value)), es'.Perm es.toList → f 0 = 0 → SN prog w a o ep f (es'.map (·.2)) → wpAny (model prog w) A.in1 (do
   let first ← pure (rawInt 0)
   let __do_lift ← setEpoch a
   let __do_lift ← newFields "set_iterator" [first, rawInt 0, Value.ref a, rawInt ↑es.size, rawInt ↑__do_lift]
   ret __do_lift) (fun fin s' => ∃ v, fin = Fin.done (Flow.ret v) ∧ ∃ T' r, s'.TypeIs v T' ∧ typeLookup (Value.type T') (Str.ofString "__next__") = pure (some r) ∧ Q v s') E s := by
  intro f es' hp hf0 hsn
  refine wpAny_bind (wpAny_pure (wpAny_bind (wpAny_setEpoch_of ho hd hf (wpAny_bind ?_))))
  unfold newFields
  refine wpAny_newObj_type (wpAny_pure ⟨_, rfl, "set_iterator", _, ⟨_, Heap.get?_push_size _ rfl, rfl⟩, slot_setit_next.lookup, ?_⟩)
  have hl : (es'.map (·.2)).length = es.size := by rw [List.length_map, hp.length_eq, Array.length_toList]
  have key := h (s.heap.push (Zej (.int (f 0) 0) 0 a es.size ep)) s.drawn s.heap.objs.size [s.heap.objs.size, a] _ _ _ (fun b o e => Heap.get?_push_of_some _ e) (Zk5 hh (Nat.ne_of_gt hlt) hd hf hsn hl) ⟨Heap.get?_push_size _ rfl, Heap.get?_push_of_some _ ho⟩ (Nat.le_refl _)
   (fun b hb => by simp only [List.mem_cons, List.not_mem_nil, or_false] at hb; rcases hb with rfl | rfl; exact .inr (Nat.le_refl _); exact .inl rfl)
   (fun b hb => by rw [Heap.size_push]; simp only [List.mem_cons, List.not_mem_nil, or_false] at hb; rcases hb with rfl | rfl; exact Nat.lt_succ_self _; exact Nat.lt_succ_of_lt hlt)
   (by rw [hl]; exact hz) (fun vs hvl hv => told es' hp vs (List.ext_getElem? fun i => by
    by_cases c : i < vs.length
    ·rw [List.getElem?_eq_getElem c, hv i _ (List.getElem?_eq_getElem c)]
    ·rw [List.getElem?_eq_none (by omega), List.getElem?_eq_none (by omega)]))
  rw [hf0] at key
  exact key
 cases hb : byT w with
 | true =>
  rw [if_neg (by simp)]
  exact plain (fun _ => 0) _ (Zje (w.params.setOrder a ep) es) rfl (sn_text hd hf hb)
 | false =>
  refine wpAny_ite_split (fun c => ?_) (fun c => ?_)
  ·refine wpAny_bind (Zft _ _ _ (by simp) fun ps d hp => ?_)
   have hpl : ps.length = es.size := by rw [hp.length_eq, List.length_range]
   have hz2 : (ps.map fun i : Nat => rawInt i).length ≤ sizeLine := by rw [List.length_map, hpl]; exact fits_of_scanBound (Nat.lt_of_le_of_lt hz hn)
   refine wpAny_bind (wpAny_newTuple ?_ hz2)
   refine wpAny_bind (wpAny_setEpoch_of (Heap.get?_push_of_some _ ho) hd hf (wpAny_bind ?_))
   unfold newFields
   refine wpAny_newObj_type (wpAny_pure ⟨_, rfl, "set_iterator", _, ⟨_, Heap.get?_push_size _ rfl, rfl⟩, slot_setit_next.lookup, ?_⟩)
   have hps : ∀ (i p : Nat), ps[i]? = some p → p < es.size := fun i p e => List.mem_range.mp (hp.mem_iff.mp (List.mem_of_getElem? e))
   have hz1 : (s.heap.push { cls := .type "tuple", data := .seq (ps.map fun i : Nat => rawInt i).toArray }).objs.size = s.heap.objs.size + 1 := Heap.size_push ..
   refine h _ d (s.heap.push _).objs.size [(s.heap.push _).objs.size, a, s.heap.objs.size] _ _ _ (fun b o e => Heap.get?_push_of_some _ (Heap.get?_push_of_some _ e)) (Zgu hh (ps := ps) (c := 0) ?_ ?_ hd hf rfl hps) ⟨Heap.get?_push_size _ rfl, Heap.get?_push_of_some _ (Heap.get?_push_of_some _ ho), Heap.get?_push_of_some _ (Heap.get?_push_size _ rfl)⟩ ?_ ?_ ?_ (by rw [hpl]; exact hz) fun vs hvl hv => ?_
   ·rw [hz1]; exact Nat.ne_of_gt (Nat.lt_succ_of_lt hlt)
   ·rw [hz1]; exact Nat.succ_ne_self _
   ·rw [hz1]; exact Nat.le_succ _
   ·intro b hb
    rw [hz1] at hb
    simp only [List.mem_cons, List.not_mem_nil, or_false] at hb
    rcases hb with rfl | rfl | rfl
    ·exact .inr (Nat.le_succ _)
    ·exact .inl rfl
    ·exact .inr (Nat.le_refl _)
   ·intro b hb
    rw [hz1] at hb
    rw [Heap.size_push, hz1]
    simp only [List.mem_cons, List.not_mem_nil, or_false] at hb
    rcases hb with rfl | rfl | rfl
    ·exact Nat.lt_succ_self _
    ·exact Nat.lt_succ_of_lt (Nat.lt_succ_of_lt hlt)
    ·exact Nat.lt_succ_of_lt (Nat.lt_succ_self _)
   ·refine told (ps.filterMap (es[·]?)) ((hp.filterMap _).trans (by rw [filterMap_getElem?_range])) vs ?_
    exact picked hps vs hvl hv
  ·exact plain (Zdg t.place) es.toList (.refl _) rfl (Zlp hd hf hT hb (by cases q : (!t.plain && decide (es.size > 1)) with | false => rfl | true => exact absurd (show (!false && (!t.plain && decide (es.size > 1))) = true by rw [q]; rfl) c))
end
end My
namespace My
open PySem PySem.Spec
open PyProof.Rows hiding St
section
variable {prog : Program} {w : World} {A : Around} {E : Value → Shared → Prop} {s : Shared}
theorem Zkk {r : Addr} {Q : Bool → Shared → Prop} (hT : s.TypeIs (.ref r) "set") (h : Q false s) : wpAny (model prog w) A (Builtin.List.listLengthHint (.ref r)) Q E s := by
 unfold Builtin.List.listLengthHint
 refine wpAny_bind (wpAny_specialOf hT (show typeLookup (.type "set") "__len__" = pure (some (.builtin "set.__len__")) from by rw [typeLookup_type, builtinLookup_eq_fast]; kernel_rfl) ?_)
 generalize hid : ("set.__len__" : String) = id0
 wp_delta
 rw [show splitId id0 = some ("set", "__len__") from by subst hid; decide +kernel]
 subst hid
 refine wpAny_bind (wpAny_isInstance (T := "set") (b := true) hT (by rw [isSubtype_type]; kernel_rfl) ?_)
 refine wpAny_ite_split (fun hab => absurd hab (by decide)) (fun _ => ?_)
 refine wpAny_ite_split (fun _ => ?_) (fun hab => absurd (by decide +kernel) hab)
 refine wpAny_bind (wpAny_typeOf hT ?_)
 exact wpAny_pure h
theorem SetI.type {a : Addr} {S : Int → Prop} {n : Nat} (x : SetI prog w s.heap a S n) : s.TypeIs (.ref a) "set" := let ⟨o, _, _, _, ho, hex, _⟩ := x; ⟨o, ho, hex.1⟩
abbrev ZdZ (c : Nat) : Obj := { cls := .type "list", data := .seq #[] c }
theorem ZhI {a L : Addr} {S : Int → Prop} {n c₀ : Nat} {res : Value} {R : Result → Shared → Prop} (hh : A.handled = none) (hS : SetI prog w s.heap a S n) (hn : n < scanBound) (hLa : L ≠ a) (hL : s.heap.get? L = some (ZdZ c₀))
  (hR : ∀ h' d tk (acc : Array Value) (ks : List Int) c', (∀ b o, b ≠ L → s.heap.get? b = some o → h'.get? b = some o) → h'.get? L = some { cls := .type "list", dict := none, data := .seq acc c', slots := #[] } → IntsAre acc.toList ks → ks.Nodup → (∀ k, k ∈ ks ↔ S k) → acc.size ≤ n →
   R (.ok (.ret res)) { s with heap := h', drawn := d, toks := tk }) :
  wpAny (model prog w) A.in1 (Builtin.List.listExtendWith (.ref L) (.ref a) res)
   (fun fin s' => match fin with | .done f => R (.ok f) s' | .again c' => c'.quiet = true ∧ codeAny (model prog w) A c' R s') (fun e s' => R (.error e) s') s := by
 unfold Builtin.List.listExtendWith
 refine wpAny_bind (wpAny_typeOf (T := "set") hS.type ?_)
 have h1 : Builtin.List.listSameRef (.ref L) (.ref a) = false := by simp [Builtin.List.listSameRef, hLa]
 have h2 : (Value.type "set" == Value.type "list") = false := by decide
 have h3 : (Value.type "set" == Value.type "tuple") = false := by decide
 simp only [h1, h2, h3, Bool.or_false, Bool.false_eq_true, if_false]
 have hLlt := Heap.lt_size hL
 refine wpAny_bind (ZkH (A := A.in1) hh hS hn fun h' d I fp m P St hk W hst hI hfp hfp2 hm told => ?_)
 have hLf : L ∉ fp := fun z => by
  rcases hfp L z with e | e
  ·exact hLa e
  ·exact absurd hLlt (Nat.not_lt.mpr e)
 have hL1 : h'.get? L = some (ZdZ c₀) := hk _ _ hL
 have key : ∀ (h1 : Heap) (c₁ : Nat), (∀ b o, b ≠ L → h'.get? b = some o → h1.get? b = some o) → h1.get? L = some (ZdZ c₁) → codeAny (model prog w) A (.builtin "list.extend.loop" ⟨[.ref L, .ref I, res], []⟩) R { s with heap := h1, drawn := d } := by
  intro h1 c₁ k1 g1
  refine codeAny_extend_loopS W.toS (fits_of_scanBound (Nat.lt_of_le_of_lt hm hn)) L hLf res m 0 _ #[] c₁ rfl (Nat.zero_le _) (W.frame 0 h' h1 hst fun b hb o e => k1 b o (fun z => hLf (z ▸ hb)) e) g1 (ItemsOf.nil _) fun s' acc' c' hmv g' hacc => ?_
  rw [Moved.eq_with hmv]
  obtain ⟨ks, i1, i2, i3⟩ := told acc'.toList (by rw [Array.length_toList]; exact hacc.1) fun j v e => hacc.2 j v (by rw [← Array.getElem?_toList]; exact e)
  refine hR s'.heap d s'.toks acc' ks c' (fun b o hb e => hmv.heap b o (fun z => ?_) (k1 b o hb (hk b o e))) g' i1 i2 i3 (by rw [hacc.1]; exact hm)
  rcases List.mem_cons.mp z with z | z
  ·exact hb z
  ·rw [List.mem_singleton.mp z] at e
   exact absurd (Heap.lt_size e) (Nat.not_lt.mpr hI)
 have hS' : SetI prog w h' a S n := hS.keep fun o e => hk _ _ e
 refine wpAny_bind (wpAny_holding (Zkk (s := { s with heap := h', drawn := d }) hS'.type ?_))
 refine wpAny_ite_split (fun _ => ?_) (fun _ => wpAny_pure ⟨plainId_quiet F.plain_extend_loop _, key h' c₀ (fun b o _ e => e) hL1⟩)
 refine wpAny_bind (wpAny_rule (wpAny_bind ?_))
 show wpAny _ _ (updateSeq L (·.push .none) >>= fun _ => updateSeq L (·.pop)) _ _ _
 refine wpAny_bind (wpAny_updateSeq hL1 rfl ?_)
 have g2 := Heap.get?_update_self (Obj.mapSeq (·.push Value.none)) hL1 rfl
 refine wpAny_updateSeq (hz := by seq_fits) g2 rfl ?_
 have g3 := Heap.get?_update_self (Obj.mapSeq (·.pop)) g2 rfl
 exact wpAny_pure ⟨plainId_quiet F.plain_extend_loop _, key _ _ (fun b o hb e => (Heap.get?_update_other _ _ (Ne.symm hb)).trans ((Heap.get?_update_other _ _ (Ne.symm hb)).trans e)) g3⟩
theorem Zga {a : Addr} {S : Int → Prop} {n : Nat} {Q : List Value → Shared → Prop} (hh : A.handled = none) (hS : SetI prog w s.heap a S n) (hn : n < scanBound)
  (h : ∀ h' d tk (vs : List Value) (ks : List Int), (∀ b o, s.heap.get? b = some o → h'.get? b = some o) → IntsAre vs ks → ks.Nodup → (∀ k, k ∈ ks ↔ S k) → vs.length ≤ n → s.heap.objs.size ≤ h'.objs.size → Q vs { s with heap := h', drawn := d, toks := tk }) :
  wpAny (model prog w) A (collect (.ref a)) Q E s := by
 unfold collect
 refine wpAny_bind (wpAny_runValue (codeAny_builtin entry_proto_collect' ?_))
 rw [Around.under_plainId F.plain_proto_collect _]
 show wpAny _ A.in1 (newList [] >>= fun l => again (.builtin "list.__iadd__" ⟨[l, .ref a], []⟩)) _ _ s
 refine wpAny_bind (wpAny_newObj_type ?_)
 refine wpAny_pure ⟨plainId_quiet F.plain_list_iadd _, codeAny_builtin entry_list_iadd' ?_⟩
 rw [Around.under_plainId F.plain_list_iadd _]
 show wpAny _ A.in1 (Builtin.List.listExtendWith (.ref s.heap.objs.size) (.ref a) (.ref s.heap.objs.size)) _ _ _
 have key := ZhI (A := A) (s := { s with heap := s.heap.push (ZdZ 0) }) (L := s.heap.objs.size) (c₀ := 0) (res := .ref s.heap.objs.size) (n := n) (S := S)
  (R := fun (q : Result) (s' : Shared) => ∃ (h' : Heap) (d : Drawn) (tk : Nat) (acc : Array Value) (ks : List Int) (c' : Nat), q = .ok (.ret (.ref s.heap.objs.size)) ∧ s' = { s with heap := h', drawn := d, toks := tk } ∧ (∀ b o, s.heap.get? b = some o → h'.get? b = some o) ∧
   h'.get? s.heap.objs.size = some { cls := .type "list", dict := none, data := .seq acc c', slots := #[] } ∧ IntsAre acc.toList ks ∧ ks.Nodup ∧ (∀ k, k ∈ ks ↔ S k) ∧ acc.size ≤ n)
  hh (hS.keep fun o e => Heap.get?_push_of_some _ e) hn (Nat.ne_of_gt hS.lt) (Heap.get?_push_size _ rfl)
  (fun h' d tk acc ks c' hk g i1 i2 i3 i4 => ⟨h', d, tk, acc, ks, c', rfl, rfl, fun b o e => hk b o (Nat.ne_of_lt (Heap.lt_size e)) (Heap.get?_push_of_some _ e), g, i1, i2, i3, i4⟩)
 refine wpAny_mono key (fun fin s' x => ?_) fun e s' x => ?_
 ·cases fin with
  | done f =>
   obtain ⟨h', d, tk, acc, ks, c', e, rfl, hk, g, i1, i2, i3, i4⟩ := x
   cases e
   show wpAny _ A (load s.heap.objs.size >>= _) _ _ _
   exact wpAny_bind (wpAny_load g (wpAny_pure (h h' d tk acc.toList ks hk i1 i2 i3 (by rw [Array.length_toList]; exact i4) (Nat.le_of_lt (Heap.lt_size g)))))
  | again c₁ =>
   refine ⟨x.1, codeAny_mono x.2 fun q s₂ y => ?_⟩
   obtain ⟨h', d, tk, acc, ks, c', rfl, rfl, hk, g, i1, i2, i3, i4⟩ := y
   show wpAny _ A (load s.heap.objs.size >>= _) _ _ _
   exact wpAny_bind (wpAny_load g (wpAny_pure (h h' d tk acc.toList ks hk i1 i2 i3 (by rw [Array.length_toList]; exact i4) (Nat.le_of_lt (Heap.lt_size g)))))
 ·obtain ⟨_, _, _, _, _, _, e', _⟩ := x
  cases e'
theorem Zef {ks : List Int} (h : ks.Pairwise (· ≤ ·)) (hn : ks.Nodup) : ks.Pairwise (· < ·) := by
 have := List.Pairwise.and h hn
 exact this.imp fun ⟨h1, h2⟩ => Int.lt_iff_le_and_ne.mpr ⟨h1, h2⟩
theorem ZcC {h : Heap} {a b : Addr} {o : Obj} {vs : List Value} {out : Array Value} (hb : b ≠ a) (e : h.get? b = some o) : (sortedHeap h a vs out).get? b = some o := by
 unfold sortedHeap
 exact (Heap.get?_update_other _ _ (Ne.symm hb)).trans (Heap.get?_push_of_some _ (Heap.get?_push_of_some _ ((Heap.get?_update_other _ _ (Ne.symm hb)).trans e)))
theorem Zea {h : Heap} {a : Addr} {vs : List Value} {n : Nat} {out : Array Value} (e : h.get? a = some (seqObj "list" vs.toArray n)) : ∃ c, (sortedHeap h a vs out).get? a = some { cls := .type "list", dict := none, data := .seq out c, slots := #[] } := by
 unfold sortedHeap
 exact ⟨_, get?_update_seq (Heap.get?_push_of_some _ (Heap.get?_push_of_some _ (get?_update_seq e fun _ => #[]))) fun _ => out⟩
theorem Zhe {a : Addr} {S : Int → Prop} {n : Nat} {Q : Value → Shared → Prop} (hh : A.handled = none) (hS : SetI prog w s.heap a S n) (hn : n < 64)
  (h : ∀ (h' : Heap) d tk (D : Addr) (out : Array Value) (ks : List Int) c, (∀ b o, s.heap.get? b = some o → h'.get? b = some o) → s.heap.objs.size ≤ D → h'.get? D = some { cls := .type "list", dict := none, data := .seq out c, slots := #[] } → IntsAre out.toList ks → ks.Pairwise (· < ·) → (∀ k, k ∈ ks ↔ S k) →
   Q (.ref D) { s with heap := h', drawn := d, toks := tk }) : wpAny (model prog w) A (call (.builtin "sorted") [.ref a]) Q E s := by
 refine Calls.call_function_entry kind_sorted plain_sorted entry_sorted (args_sorted1 _) ?_
 unfold Builtin.«sorted»
 refine wpAny_bind (m := checkCount "sorted" 1 1 _) (wpAny_pure ?_)
 refine wpAny_bind (Zga (A := A.in1) hh hS (Nat.lt_trans hn (by decide)) fun h' d tk vs ks hk i1 i2 i3 i4 hle => ?_)
 have hv : vs.length < 64 := by omega
 refine wpAny_bind (wpAny_newList ?_ (Nat.le_trans (Nat.le_of_lt hv) (by decide)))
 have hoL : (h'.push (seqObj "list" vs.toArray 0)).get? h'.objs.size = some (seqObj "list" vs.toArray 0) := Heap.get?_push_size _ rfl
 refine wpAny_bind (wpAny_holding (wpAny_call_entry slot_list_sort ⟨_, hoL, rfl⟩ entry_list_sort (list_sort_tree hoL i1 hv fun out ks' a1 a2 a3 => ⟨_, rfl, ?_⟩) (args_list_sort _)))
 obtain ⟨c, e1⟩ := Zea hoL (out := out)
 refine wpAny_pure ⟨_, rfl, h _ d tk h'.objs.size out ks' c (fun b o e => ?_) hle e1 a1 (Zef a3 (a2.nodup_iff.mpr i2)) fun k => (a2.mem_iff).trans (i3 k)⟩
 exact ZcC (Nat.ne_of_lt (Nat.lt_of_lt_of_le (Heap.lt_size e) hle)) (Heap.get?_push_of_some _ (hk b o e))
end
end My
namespace My
open PySem PySem.Spec L2
open PyProof.Rows hiding St
theorem Zck : ∀ {ns : List Int} {us : List Value}, Vals (ns.map V.int) us → IntsAre us ns
 | [], us, h => by cases h; exact .nil
 | n :: ns, us, h => by
  cases h with
  | cons h1 h2 =>
   obtain ⟨t, rfl⟩ := h1
   exact .cons n t (Zck h2)
theorem Zfe : ∀ {ns : List Int} {us : List Value}, IntsAre us ns → Vals (ns.map V.int) us
 | _, _, .nil => .nil
 | _, _, .cons n t h => .cons ⟨t, rfl⟩ (Zfe h)
section
variable {X : Cx} {e : Expr} {t : TA} {p p' pos pos' : Pos}
theorem Zgn {pins : List (Addr × Obj)} {σ : St} {H : Hp} {s : Shared} (I : Inv X pins σ H s) (d : Drawn) : Inv X pins σ H { s with drawn := d } := ⟨I.ok, I.os, I.bare, I.base, I.loc, I.cell, I.free, I.freeC, I.pin, I.hok, I.len⟩
theorem SetI.few {prog : Program} {w : World} {h : Heap} {a : Addr} {S : Int → Prop} {n : Nat} (x : SetI prog w h a S n) (hb : ∀ k, S k → 0 ≤ k ∧ k < 60) : SetI prog w h a S 60 := by
 obtain ⟨o, es, ep, t, ho, hex, hd, hT, hf, hA, hN, hM, hz⟩ := x
 refine ⟨o, es, ep, t, ho, hex, hd, hT, hf, hA, hN, hM, ?_⟩
 have hs : es.toList.map Zdw ⊆ (List.range 60).map fun k : Nat => (k : Int) := fun k hk => by
  obtain ⟨h1, h2⟩ := hb k ((hM k).mp hk)
  exact List.mem_map.mpr ⟨k.toNat, List.mem_range.mpr (by omega), by omega⟩
 have := List.Nodup.length_le_of_subset hN hs
 simpa using this
def ZeB : List V → Hp → VK → Prop := fun xs H Q => ∃ (a : Addr) (ns : List Int), xs = [.ref a] ∧ H a = some (.lst (ns.map V.int)) ∧ ns.length < 4000 ∧ (∀ k ∈ ns, 0 ≤ k ∧ k < 60) ∧
 ∀ l H2 (ks : List Int), H l = none → Same H H2 → H2 l = some (.lst (ks.map V.int)) → ks.Pairwise (· < ·) → (∀ k, k ∈ ks ↔ k ∈ ns) → Q (.ref l) H2
theorem Zid (hg : Gl X "sorted") (hm : X.mg "sorted" = none) (hg2 : Gl X "set") (hm2 : X.mg "set" = none) (ha : QA X [e] t) (hp : Zao e = true := by rfl) (hc : X.calm = true := by rfl) :
  QE X (.Call (.Name "sorted" p) [.Call (.Name "set" p') [e] [] pos'] [] pos) (tCB ZeB t) := ⟨by
 intro pins s σ H Q I h
 refine wpAny_Call_Name_kw (ZbO I hg hm (show bootBuiltins "sorted" = some (.builtin "sorted") by decide +kernel) ?_ (by decide) (by decide))
 refine PyProof.Rows.callWith_builtin1 ?_ rfl rfl
 show wpAny _ _ (spliced ((false, eval (.Call (.Name "set" p') [e] [] pos') X.env) :: [])) _ _ s
 refine Calls.spliced_cons ?_
 refine wpAny_Call_Name_kw (ZbO I hg2 hm2 (show bootBuiltins "set" = some (.type "set") by decide +kernel) ?_ (by decide) (by decide))
 refine PyProof.Rows.callWith_type1 (thn (ha.h pos' pins s σ H _ I h) fun us s1 ⟨vs, H1, I1, r1, q1⟩ => ?_) (Zak hp) rfl
 obtain ⟨a, ns, rfl, e1, hl, hb, q⟩ := q1
 obtain ⟨u, rfl, ru⟩ := Zcc r1
 cases ru
 obtain ⟨_, its, n, hv, g⟩ := I1.hok a _ e1
 have hi := Zck hv
 refine Zf2 (I1.ok.hd hc) ⟨_, g, rfl, n, rfl⟩ (by simpa using hi) (by have : scanBound = 4096 := rfl; omega) fun h' tk hS hk => Calls.spliced_nil ?_
 refine Zhe (s := { s1 with heap := h', toks := tk }) (I1.ok.hd hc) (hS.few fun k hk => hb k hk) (by decide) fun h2 d tk2 D out ks c hk2 hle g2 i1 i2 i3 => ?_
 have hD : s1.heap.objs.size ≤ D := Nat.le_trans (Nat.le_of_lt hS.lt) hle
 have hf : H1 D = none := I1.hok.fresh hD
 have hkl : ks.length ≤ sizeLine := by
  have hs : ks ⊆ (List.range 60).map fun k : Nat => (k : Int) := fun k hk => by
   obtain ⟨h1, h2⟩ := hb k ((i3 k).mp hk)
   exact List.mem_map.mpr ⟨k.toNat, List.mem_range.mpr (by omega), by omega⟩
  have hnd : ks.Nodup := i2.imp fun h e => by rw [e] at h; exact Int.lt_irrefl _ h
  have := List.Nodup.length_le_of_subset hnd hs
  exact Nat.le_trans (by simpa using this) (show 60 ≤ sizeLine by decide)
 exact ⟨.ref D, upd H1 D (.lst (ks.map V.int)), Zgn (I1.laid (t' := tk2) (o := .lst (ks.map V.int)) (fun b u e => hk2 b u (hk b u e)) hD (show ObjOk X.prog X.w _ h2 _ (.lst (ks.map V.int)) from ⟨by simpa using hkl, out.toList, c, Zfe i1, by simpa using g2⟩)) d, rfl, q D _ ks hf (ZaK hf _) upd_same i2 i3⟩⟩
end
end My
namespace My
open PySem PySem.Spec L2
open PyProof.Rows hiding St
section
variable {X : Cx} {a b o e : Expr} {es : List Expr} {ta tb to te : TE} {t : TA} {name : Str} {apos cpos pos p p2 : Pos} {id : String} {r : V → List V → Hp → VK → Prop}
theorem q_ixX (ha : QE X a ta) (hb : QE X b tb) (hs : Zec b := by intro _ _; rfl) : QE X (.Subscript a b pos) (tOp rIxS ta tb) := ⟨Zlt ix_str ha.h hb.h hs⟩
def rSlX : V → Option Int → Option Int → Hp → VK → Prop := fun x lo hi H Q => ∃ z, x = .str z ∧ z.length ≤ 1000 ∧ Q (.str (Txt.slice z lo hi)) H
def Zg6 : Value → Option (Int × Tok)
 | .int i t => some (i, t)
 | _ => none
theorem ZiW {v : Value} {o : Option Int} (h : IsPart v o) : partValue (Zg6 v) = v ∧ (Zg6 v).map (·.1) = o := by
 cases h with
 | none => exact ⟨rfl, rfl⟩
 | int i t => exact ⟨rfl, rfl⟩
theorem sl_str : SlR X rSlX := by
 intro pins s σ H x v vl vu lo hi sl Q I rx hs pl pu h
 obtain ⟨z, rfl, hz, q⟩ := h
 obtain ⟨t, rfl⟩ := rx
 obtain ⟨e1, e2⟩ := ZiW pl
 obtain ⟨e3, e4⟩ := ZiW pu
 obtain ⟨os, g1, g2, g3⟩ := hs
 have hz2 : z.length ≤ sizeLine := Nat.le_trans hz (by decide)
 refine ⟨"str", _, F.slot_str_getitem.lookup, typeIs_str _ _ _, ?_⟩
 refine wpAny_getItem_str_slice (l := Zg6 vl) (u := Zg6 vu) (st := none) ⟨os, g1, g2, by rw [e1, e3]; exact g3⟩ rfl ?_
 subst e2
 subst e4
 exact post_val_or_str ⟨Nat.le_trans (Txt.slice_le z _ _) hz2, fun t' k => ⟨.str _, H, I.tok _, ⟨_, rfl⟩, q⟩⟩
theorem q_cutX (ha : QE X a ta) (hb : QE X b tb) : QE X (.Subscript a (.Slice none (some b) none p2) pos) (tSl rSlX ta ZeL (Zle tb)) := ⟨Zkl sl_str ha.h po_none (po_some hb.h)⟩
def tXm (r : V → List V → Hp → VK → Prop) (to : TE) (t : TA) : TE := fun σ H Q => to σ H fun x H1 => ∃ z, x = .str z ∧ t σ H1 fun vs H2 => r x vs H2 Q
theorem pe_xm (slot : Slot "str" name id) (hty : typeOf (.builtin id) = pure (.type "method_descriptor")) (hm : MtM X id r) (ho : PE X o to) (ha : PA X (e :: es) t)
  (hbase : attributeBase o name X.env (eval o X.env) = eval o X.env := by rfl)
  (hfew : ((backTo cpos (starEach (e :: es) X.env)).all (fun x => !x.1) && (backToKw cpos (keywordEach [] X.env)).all (fun x => x.1.isSome)
   && decide ((e :: es).length + ([] : List Keyword).length + (if ([] : List Keyword).isEmpty then 0 else 1) < 30)) = true := by rfl)
  (hline : (apos.endLine == cpos.line) = true := by rfl) (hs : starEach (e :: es) X.env = (false, eval e X.env) :: starEach es X.env := by rfl) (hplain : (backTo cpos (starEach es X.env)).any (·.1) = false := by rfl) :
  PE X (.Call (.Attribute o name apos) (e :: es) [] cpos) (tXm r to t) := by
 intro pins s σ H Q I h
 refine wpAny_Call_method_late hbase hfew hline rfl (thn (ho pins s σ H _ I h) fun v s1 ⟨x, H1, I1, r1, z, e1, q1⟩ => ?_)
 subst e1
 obtain ⟨tk, rfl⟩ := r1
 refine ⟨"str", id, PySem.F.plainAttrs_str, slot, hty, typeIs_str _ _ _, (fun _ e => nomatch e), ?_⟩
 have hA := ha cpos pins s1 σ H1 _ I1 q1
 rw [hs] at hA ⊢
 refine Calls.callWith_builtin (by show (false || (backTo cpos (starEach es X.env)).any (·.1)) = false; rw [hplain] <;> rfl) (Calls.evalArgs_plain ?_)
 exact thn hA fun us s2 ⟨vs, H2, I2, r2, q2⟩ => hm pins s2 σ H2 (.str z) vs _ us Q I2 ⟨tk, rfl⟩ r2 q2
def ZlF : V → List V → Hp → VK → Prop := fun x vs H Q => ∃ z y, x = .str z ∧ vs = [.str y] ∧ Q (.int (Txt.find z y)) H
theorem mt_find : MtM X "str.find" ZlF := by
 intro pins s σ H x vs v us Q I rx rv h
 obtain ⟨z, y, rfl, rfl, q⟩ := h
 obtain ⟨t, rfl⟩ := rx
 obtain ⟨u, rfl, ru⟩ := Zcc rv
 obtain ⟨t2, rfl⟩ := ru
 exact SC.find ⟨.int _, H, I.tok _, ⟨_, rfl⟩, q⟩
theorem q_find (ho : QE X o to) (ha : QA X [e] t) (hbase : attributeBase o "find" X.env (eval o X.env) = eval o X.env := by rfl) (hline : (apos.endLine == cpos.line) = true := by rfl) (hp : Zao e = true := by rfl) :
  QE X (.Call (.Attribute o "find" apos) [e] [] cpos) (tXm ZlF to t) := ⟨pe_xm F.slot_str_find F.type_str_find mt_find ho.h ha.h hbase (by rw [Zak hp]; rfl) hline (Zak hp) rfl⟩
theorem ZcM : ∀ {ss : List Str} {us : List Value}, Vals (ss.map V.str) us → StrsAre us ss
 | [], us, h => by cases h; exact .nil
 | x :: ss, us, h => by
  cases h with
  | cons h1 h2 =>
   obtain ⟨t, rfl⟩ := h1
   exact .cons x t (ZcM h2)
theorem ZdI : ∀ {ss : List Str} {us : List Value}, StrsAre us ss → Vals (ss.map V.str) us
 | _, _, .nil => .nil
 | _, _, .cons x t h => .cons ⟨t, rfl⟩ (ZdI h)
def ZlD : V → List V → Hp → VK → Prop := fun x vs H Q => ∃ z a ss, x = .str z ∧ vs = [.ref a] ∧ H a = some (.lst (List.map V.str ss)) ∧ z.length ≤ 16 ∧ (ss.map (·.length)).sum + ss.length ≤ 1048576 ∧ Q (.str (Txt.join z ss)) H
theorem mt_join : MtM X "str.join" ZlD := by
 intro pins s σ H x vs v us Q I rx rv h
 obtain ⟨z, a, ss, rfl, rfl, e, h1, h2, q⟩ := h
 obtain ⟨t, rfl⟩ := rx
 obtain ⟨u, rfl, ru⟩ := Zcc rv
 cases ru
 obtain ⟨_, its, n, hv, g⟩ := I.hok a _ e
 exact join_listW ⟨_, g, rfl, n, rfl⟩ (by simpa using ZcM hv) h1 h2 fun t' k => ⟨.str _, H, I.tok _, ⟨_, rfl⟩, q⟩
theorem q_join (ho : QE X o to) (ha : QA X [e] t) (hbase : attributeBase o "join" X.env (eval o X.env) = eval o X.env := by rfl) (hline : (apos.endLine == cpos.line) = true := by rfl) (hp : Zao e = true := by rfl) :
  QE X (.Call (.Attribute o "join" apos) [e] [] cpos) (tXm ZlD to t) := ⟨pe_xm F.slot_str_join F.type_str_join mt_join ho.h ha.h hbase (by rw [Zak hp]; rfl) hline (Zak hp) rfl⟩
theorem Zlh (z : Str) (ss : List Str) : (Txt.join z ss).length ≤ (ss.map (·.length)).sum + ss.length * z.length := by
 show (Builtin.Str.glued z ss).length ≤ _
 rw [StrLaws.glued_eq_join]
 exact StrLaws.join_length_le z ss
end
end My
namespace My
open PySem PySem.Spec L2
open PyProof.Rows hiding St
def leS (a b : Str) : Prop := a.cps.toList ≤ b.cps.toList
theorem leS_of {a b : Str} (h : (!ltCps b.cps.toList a.cps.toList) = true) : leS a b := by
 rw [ltCps_eq, Bool.not_eq_true', decide_eq_false_iff_not] at h
 exact List.not_lt.mp h
theorem Zlf {a b : Str} (h1 : leS a b) (h2 : leS b a) : a = b := by
 have := List.le_antisymm h1 h2
 cases a; cases b
 exact congrArg Str.mk (Array.toList_inj.mp this)
theorem Zfj : ∀ (p : Str) (l : List Str), risingS p l = true → (p :: l).Pairwise leS
 | p, [], _ => List.pairwise_singleton ..
 | p, x :: l, h => by
  unfold risingS at h
  rw [Bool.and_eq_true] at h
  have ih := Zfj x l h.2
  have hx := leS_of h.1
  refine List.pairwise_cons.mpr ⟨fun y hy => ?_, ih⟩
  rcases List.mem_cons.mp hy with rfl | hy
  ·exact hx
  ·exact List.le_trans hx ((List.pairwise_cons.mp ih).1 y hy)
theorem ZfB : ∀ {l : List Str}, sortedS l = true → l.Pairwise leS
 | [], _ => List.Pairwise.nil
 | x :: l, h => Zfj x l h
theorem Zgg {l m : List Str} (h1 : l.Pairwise leS) (h2 : m.Pairwise leS) (p : l.Perm m) : l = m := List.Perm.eq_of_pairwise (fun _ _ _ _ => Zlf) h1 h2 p
section
variable {X : Cx} {e : Expr} {t : TA} {p pos : Pos}
def Zdt : List V → Hp → VK → Prop := fun xs H Q => ∃ (a : Addr) (ss : List Str), xs = [.ref a] ∧ H a = some (.lst (ss.map V.str)) ∧ ss.length < 64 ∧ ∀ l H2 (ts : List Str), H l = none → Same H H2 → H2 l = some (.lst (ts.map V.str)) → ts.Pairwise leS → ts.Perm ss → Q (.ref l) H2
theorem Zfx : CallR X (.builtin "sorted") Zdt := by
 intro pins s σ H xs us Q I r h
 obtain ⟨a, ss, rfl, e, hl, q⟩ := h
 obtain ⟨u, rfl, ru⟩ := Zcc r
 cases ru
 obtain ⟨_, its, n, hv, g⟩ := I.hok a _ e
 have hi := ZcM hv
 have hil : its.length = ss.length := by rw [← hv.length, List.length_map]
 refine sorted_strs (vs := its) ⟨_, g, rfl, n, rfl⟩ hi (by omega) fun out ts o1 o2 o3 => ?_
 have hD : s.heap.objs.size ≤ s.heap.objs.size + 1 := Nat.le_succ _
 have hf : H (s.heap.objs.size + 1) = none := I.hok.fresh hD
 have hz1 : ((s.heap.push (seqObj "list" #[] 0)).update s.heap.objs.size (Obj.mapSeq (· ++ its.toArray))).objs.size = s.heap.objs.size + 1 := by rw [Heap.size_update, size_push']
 have hk : ∀ b o, s.heap.get? b = some o → (sortedAll s.heap its out).get? b = some o := fun b o eb => by
  have hb := Heap.lt_size eb
  unfold sortedAll
  exact ZcC (Nat.ne_of_lt (Nat.lt_succ_of_lt hb)) (Heap.get?_push_of_some _ ((Heap.get?_update_other _ _ (Nat.ne_of_gt hb)).trans (Heap.get?_push_of_some _ eb)))
 obtain ⟨c, e1⟩ : ∃ c, (sortedAll s.heap its out).get? (s.heap.objs.size + 1) = some { cls := .type "list", dict := none, data := .seq out c, slots := #[] } := by
  unfold sortedAll
  refine Zea (n := 0) ?_
  rw [← hz1]
  exact Heap.get?_push_size _ rfl
 have hol : ts.length ≤ sizeLine := by rw [o2.length_eq]; exact Nat.le_trans (Nat.le_of_lt hl) (by decide)
 exact ⟨.ref (s.heap.objs.size + 1), upd H (s.heap.objs.size + 1) (.lst (ts.map V.str)), I.laid (t' := s.toks) (o := .lst (ts.map V.str)) hk hD (show ObjOk X.prog X.w _ _ _ (.lst (ts.map V.str)) from ⟨by simpa using hol, out.toList, c, ZdI o1, by simpa using e1⟩), rfl, q _ _ ts hf (ZaK hf _) upd_same (ZfB o3) o2⟩
theorem ZcO (hg : Gl X "sorted") (hm : X.mg "sorted" = none) (ha : QA X [e] t) (hp : Zao e = true := by rfl) : QE X (.Call (.Name "sorted" p) [e] [] pos) (tCB Zdt t) :=
 ⟨Zb6 Zfx hg hm (by decide +kernel) ha.h (by decide) (by decide) (Zak hp) rfl⟩
end
end My
namespace My
open PySem PySem.Spec L2
open PyProof.Rows hiding St
section
variable {prog : Program} {w : World} {A : Around} {E : Value → Shared → Prop} {s : Shared}
def EqIn (prog : Program) (w : World) (A : Around) (s : Shared) (u v : Value) : Prop := ∀ (E : Value → Shared → Prop) (Q : Bool → Shared → Prop), Q true s → wpAny (model prog w) A (eqBool u v) Q E s
theorem EqIn.of {A : Around} {u v : Value} (h : SeqAt.EqAt A s u v true) : EqIn prog w A s u v := fun E Q q => h prog w E Q q
theorem EqIn.refs {a b : Addr} (h : ∀ (E : Value → Shared → Prop) (Q : Value → Shared → Prop), Q (.bool true) s → wpAny (model prog w) A (richCompare .Eq (.ref a) (.ref b)) Q E s) : EqIn prog w A s (.ref a) (.ref b) := fun E Q q => by
 unfold eqBool
 refine wpAny_holding ?_
 refine wpAny_ite_split (fun _ => wpAny_bind (wpAny_rule (wpAny_pure q))) (fun _ => ?_)
 exact wpAny_bind (h E _ (wpAny_truthy_bool q))
theorem Zlz {l b : Addr} {items items2 : Array Value} {Q : Value → Shared → Prop} (hl : s.heap.IsTuple l items) (hb : s.heap.IsTuple b items2) (hz : items.size = items2.size) (hu : A.units < cLine)
  (he : ∀ j (h1 : j < items.size) (h2 : j < items2.size), EqIn prog w A.in1 s items[j] items2[j]) (h : Q (.bool false) s) : wpAny (model prog w) A (richCompare .NotEq (.ref l) (.ref b)) Q E s := by
 obtain ⟨o1, g1, c1, n1, d1⟩ := id hl
 obtain ⟨o2, g2, c2, n2, d2⟩ := id hb
 have t1 : s.TypeIs (.ref l) "tuple" := ⟨o1, g1, c1⟩
 have t2 : s.TypeIs (.ref b) "tuple" := ⟨o2, g2, c2⟩
 refine wpAny_richCompare_same_room (op := .NotEq) t1 t2 F.slot_tuple_ne (wpAny_call_entry F.slot_tuple_ne t1 F.entry_tuple_ne ?_ (F.args_tuple_ne_2 _ _)) hu
 show wpAny _ _ (slotArgs "__ne__" 1 ⟨[.ref l, .ref b], []⟩ >>= _) _ _ s
 refine wpAny_bind (wpAny_pure ?_)
 dsimp only
 refine wpAny_bind (wpAny_isInstance (T := "tuple") (b := true) t2 AutoSeq1.sub_tuple_tuple ?_)
 rw [if_neg (by decide)]
 refine wpAny_bind (wpAny_tupleItemsOf g1 d1 (wpAny_bind (wpAny_tupleItemsOf g2 d2 ?_)))
 refine wpAny_bind (wpAny_forIn_list _ (fun rest b s' => b.1 = none ∧ s' = s ∧ ∃ i, rest = (items.toList.zip items2.toList).drop i) _ ?_ ?_ _ _ ⟨rfl, rfl, 0, rfl⟩)
 ·rintro ⟨y, x⟩ rest b' s' ⟨hb', rfl, i, hi⟩
  have hlt : i < (items.toList.zip items2.toList).length := by
   rcases Nat.lt_or_ge i (items.toList.zip items2.toList).length with h' | h'
   ·exact h'
   ·rw [List.drop_of_length_le h'] at hi; cases hi
  have hlt' := hlt
  rw [List.length_zip, Array.length_toList, Array.length_toList] at hlt'
  have k1 : i < items.size := by omega
  have k2 : i < items2.size := by omega
  rw [List.drop_eq_getElem_cons hlt] at hi
  injection hi with hyx hrest
  have hy : y = items[i] := by have := congrArg Prod.fst hyx; simpa using this
  have hx : x = items2[i] := by have := congrArg Prod.snd hyx; simpa using this
  subst hy hx
  refine wpAny_bind (he i k1 k2 _ _ ?_)
  rw [if_neg (by decide)]
  exact wpAny_pure ⟨rfl, rfl, i + 1, hrest⟩
 ·rintro ⟨b1, b2⟩ s' ⟨hb', rfl, _⟩
  simp only at hb'
  subst hb'
  dsimp only
  refine wpAny_pure ⟨_, rfl, ?_⟩
  rw [show Builtin.Tuple.tupleCompareSizes CmpOp.NotEq items.size items2.size = Value.bool false by rw [hz]; simp [Builtin.Tuple.tupleCompareSizes]]
  exact ⟨(fun z => nomatch z), h⟩
theorem ZkI {l b : Addr} {items items2 : Array Value} {Q : Value → Shared → Prop} (hl : s.heap.IsTuple l items) (hb : s.heap.IsTuple b items2) (hz : items.size = items2.size) (hu : A.units < cLine)
  (he : ∀ j (h1 : j < items.size) (h2 : j < items2.size), EqIn prog w A.in1 s items[j] items2[j]) (h : Q (.bool true) s) : wpAny (model prog w) A (richCompare .Eq (.ref l) (.ref b)) Q E s := by
 obtain ⟨o1, g1, c1, n1, d1⟩ := id hl
 obtain ⟨o2, g2, c2, n2, d2⟩ := id hb
 have t1 : s.TypeIs (.ref l) "tuple" := ⟨o1, g1, c1⟩
 have t2 : s.TypeIs (.ref b) "tuple" := ⟨o2, g2, c2⟩
 refine wpAny_richCompare_same_room (op := .Eq) t1 t2 F.slot_tuple_eq (wpAny_call_entry F.slot_tuple_eq t1 F.entry_tuple_eq ?_ (F.args_tuple_eq_2 _ _)) hu
 show wpAny _ _ (slotArgs "__eq__" 1 ⟨[.ref l, .ref b], []⟩ >>= _) _ _ s
 refine wpAny_bind (wpAny_pure ?_)
 dsimp only
 refine wpAny_bind (wpAny_isInstance (T := "tuple") (b := true) t2 AutoSeq1.sub_tuple_tuple ?_)
 rw [if_neg (by decide)]
 refine wpAny_bind (wpAny_tupleItemsOf g1 d1 (wpAny_bind (wpAny_tupleItemsOf g2 d2 ?_)))
 refine wpAny_bind (wpAny_forIn_list _ (fun rest b s' => b.1 = none ∧ s' = s ∧ ∃ i, rest = (items.toList.zip items2.toList).drop i) _ ?_ ?_ _ _ ⟨rfl, rfl, 0, rfl⟩)
 ·rintro ⟨y, x⟩ rest b' s' ⟨hb', rfl, i, hi⟩
  have hlt : i < (items.toList.zip items2.toList).length := by
   rcases Nat.lt_or_ge i (items.toList.zip items2.toList).length with h' | h'
   ·exact h'
   ·rw [List.drop_of_length_le h'] at hi; cases hi
  have hlt' := hlt
  rw [List.length_zip, Array.length_toList, Array.length_toList] at hlt'
  have k1 : i < items.size := by omega
  have k2 : i < items2.size := by omega
  rw [List.drop_eq_getElem_cons hlt] at hi
  injection hi with hyx hrest
  have hy : y = items[i] := by have := congrArg Prod.fst hyx; simpa using this
  have hx : x = items2[i] := by have := congrArg Prod.snd hyx; simpa using this
  subst hy hx
  refine wpAny_bind (he i k1 k2 _ _ ?_)
  rw [if_neg (by decide)]
  exact wpAny_pure ⟨rfl, rfl, i + 1, hrest⟩
 ·rintro ⟨b1, b2⟩ s' ⟨hb', rfl, _⟩
  simp only at hb'
  subst hb'
  dsimp only
  refine wpAny_pure ⟨_, rfl, ?_⟩
  rw [show Builtin.Tuple.tupleCompareSizes CmpOp.Eq items.size items2.size = Value.bool true by rw [hz]; simp [Builtin.Tuple.tupleCompareSizes]]
  exact ⟨(fun z => nomatch z), h⟩
end
section
variable {X : Cx} {pins : List (Addr × Obj)} {σ : St} {H : Hp} {s : Shared} {a b : Expr} {ta tb : TE} {pos : Pos} {k : Nat}
theorem kv_at {kvs : List (Key × V)} {vs : List (Key × Value)} (r : KV kvs vs) {i : Nat} {kv : Key × V} {k : Key} {v : Value} (h1 : kvs[i]? = some kv) (h2 : vs[i]? = some (k, v)) : kv.1 = k ∧ RelV kv.2 v := by
 induction r generalizing i with
 | nil => simp at h1
 | cons h _ ih =>
  cases i with
  | zero =>
   simp at h1 h2
   subst h1
   subst h2
   exact h
  | succ i => exact ih (by simpa using h1) (by simpa using h2)
inductive EqP (H : Hp) : V → V → Nat → Prop where
 | deep {x y : V} {n : Nat} (h : EqD H x y true n) : EqP H x y n
 | dct {a b : Addr} {ka kb : List (Key × V)} {n : Nat} (ha : Rd H a (.dK ka)) (hb : Rd H b (.dK kb)) (hl : ka.length = kb.length) (h : ∀ (j : Nat) x y, ka[j]? = some x → kb[j]? = some y → x.1 = y.1 ∧ EqD H x.2 y.2 true n) (hN : (ka.map (·.1)).Nodup) : EqP H (.ref a) (.ref b) (n + 2)
 | tup {a b : Addr} {xs ys : List V} {n : Nat} (ha : H a = some (.tup xs)) (hb : H b = some (.tup ys)) (hl : xs.length = ys.length) (h : ∀ (j : Nat) x y, xs[j]? = some x → ys[j]? = some y → EqP H x y n) : EqP H (.ref a) (.ref b) (n + 2)
theorem ZcP : ∀ {vs : List (Key × Value)} {j : Nat} {k : Key} {y : Value}, (vs.map (·.1)).Nodup → vs[j]? = some (k, y) → valueAt vs k = some y
 | [], j, k, y, _, h => by simp at h
 | (k', y') :: vs, 0, k, y, _, h => by
  simp at h
  obtain ⟨rfl, rfl⟩ := h
  simp [valueAt]
 | (k', y') :: vs, j + 1, k, y, hN, h => by
  rw [List.map_cons, List.nodup_cons] at hN
  have hm : (k, y) ∈ vs := List.mem_of_getElem? (by simpa using h)
  have hne : k' ≠ k := fun e => hN.1 (List.mem_map.mpr ⟨_, hm, e.symm⟩)
  have ih := ZcP hN.2 (show vs[j]? = some (k, y) by simpa using h)
  unfold valueAt at ih ⊢
  rw [List.find?_cons_of_neg (by simpa using hne)]
  exact ih
theorem ZjX {A : Around} {vb : List (Key × Value)} (hN : (vb.map (·.1)).Nodup) : ∀ {va : List (Key × Value)} (i : Nat), (∀ (j : Nat) k v, va[j]? = some (k, v) → ∃ y, vb[i + j]? = some (k, y) ∧ SeqAt.EqAt A s v y true) → PySem.W.KeqHits A s vb va true
 | [], _, _ => .nil
 | (k, v) :: va, i, h => by
  obtain ⟨y, h1, h2⟩ := h 0 k v rfl
  exact .hit (e := true) (ZcP hN h1) h2 (ZjX hN (i + 1) fun j k v e => by
   have := h (j + 1) k v e
   rw [show i + 1 + j = i + (j + 1) by omega]
   exact this)
theorem EqP.at (I : Inv X pins σ H s) {x y : V} {n : Nat} (h : EqP H x y n) : ∀ {A : Around} {u v : Value}, RelV x u → RelV y v → A.units + n < cLine → EqIn X.prog X.w A s u v ∧ ((∃ a c, x = .ref a ∧ y = .ref c) →
  (∀ (E : Value → Shared → Prop) (Q : Value → Shared → Prop), Q (.bool true) s → wpAny (model X.prog X.w) A (richCompare .Eq u v) Q E s) ∧ ∀ (E : Value → Shared → Prop) (Q : Value → Shared → Prop), Q (.bool false) s → wpAny (model X.prog X.w) A (richCompare .NotEq u v) Q E s) := by
 induction h with
 | deep h =>
  intro A u v r1 r2 hu
  obtain ⟨z1, z2⟩ := h.at I r1 r2 hu
  exact ⟨.of z1, fun w => ⟨fun E Q q => z2 w _ _ E Q q, fun E Q q => h.neAt I r1 r2 hu w _ _ E Q q⟩⟩
 | @dct a b ka kb n ha hb hl h hN =>
  intro A u v r1 r2 hu
  cases r1
  cases r2
  obtain ⟨_, n1, va, kv1, d1⟩ := ZcS I.hok ha
  obtain ⟨_, n2, vb, kv2, d2⟩ := ZcS I.hok hb
  have hkeys : ka.map (·.1) = kb.map (·.1) := List.ext_getElem? fun j => by
   rw [List.getElem?_map, List.getElem?_map]
   by_cases c : j < ka.length
   ·have c2 : j < kb.length := by omega
    rw [List.getElem?_eq_getElem c, List.getElem?_eq_getElem c2]
    exact congrArg some (h j _ _ (List.getElem?_eq_getElem c) (List.getElem?_eq_getElem c2)).1
   ·rw [List.getElem?_eq_none (by omega), List.getElem?_eq_none (by omega)]
  have hNb : (vb.map (·.1)).Nodup := by rw [← kv2.keys, ← hkeys]; exact hN
  have lA : va.length = ka.length := kv1.length.symm
  have lB : vb.length = kb.length := kv2.length.symm
  have hits : ∀ A : Around, A.units + n < cLine → PySem.W.KeqHits A s vb va true := fun A hA => ZjX hNb 0 fun j k v e => by
   have hj : j < ka.length := by rw [← lA]; exact (List.getElem?_eq_some_iff.mp e).1
   have hj2 : j < kb.length := by omega
   obtain ⟨p1, r1⟩ := kv_at kv1 (List.getElem?_eq_getElem hj) e
   obtain ⟨q, e2⟩ : ∃ q, vb[j]? = some q := ⟨_, List.getElem?_eq_getElem (by omega)⟩
   obtain ⟨p2, r2⟩ := kv_at kv2 (List.getElem?_eq_getElem hj2) (show vb[j]? = some (q.1, q.2) from e2)
   obtain ⟨p3, hd⟩ := h j _ _ (List.getElem?_eq_getElem hj) (List.getElem?_eq_getElem hj2)
   refine ⟨q.2, ?_, (hd.at I r1 r2 hA).1⟩
   rw [Nat.zero_add, e2, ← p1, p3, p2]
  have e1 : ∀ (E : Value → Shared → Prop) (Q : Value → Shared → Prop), Q (.bool true) s → wpAny (model X.prog X.w) A (richCompare .Eq (.ref a) (.ref b)) Q E s := fun E Q q =>
   PySem.W.keq_eq (A := A) n1 n2 d1 d2 (by omega) (r := true) (fun _ => hits _ (by show A.units + 1 + n < cLine; omega)) (by rw [show (va.length == vb.length && true) = true by rw [lA, lB, hl]; simp]; exact q)
  refine ⟨EqIn.refs e1, fun _ => ⟨e1, fun E Q q => ?_⟩⟩
  exact PySem.W.keq_ne (A := A) n1 n2 d1 d2 (by omega) (r := true) (fun _ => hits _ (by show A.units + 1 + n < cLine; omega)) (by rw [show (!(va.length == vb.length && true)) = false by rw [lA, lB, hl]; simp]; exact q)
 | @tup a b xs ys n ha hb hl h ih =>
  intro A u v r1 r2 hu
  cases r1
  cases r2
  obtain ⟨its, v1, t1, _⟩ := I.tuple (SqT.of ha)
  obtain ⟨jts, v2, t2, _⟩ := I.tuple (SqT.of hb)
  have he : ∀ j (h1 : j < its.toArray.size) (h2 : j < jts.toArray.size), EqIn X.prog X.w A.in1 s its.toArray[j] jts.toArray[j] := fun j h1 h2 => by
   have k1 : j < xs.length := by rw [v1.length]; simpa using h1
   have k2 : j < ys.length := by rw [v2.length]; simpa using h2
   obtain ⟨u1, q1, w1⟩ := v1.get (List.getElem?_eq_getElem k1)
   obtain ⟨u2, q2, w2⟩ := v2.get (List.getElem?_eq_getElem k2)
   have g1 : its.toArray[j] = u1 := by obtain ⟨hh, this⟩ := List.getElem?_eq_some_iff.mp q1; simpa using this
   have g2 : jts.toArray[j] = u2 := by obtain ⟨hh, this⟩ := List.getElem?_eq_some_iff.mp q2; simpa using this
   rw [g1, g2]
   exact (ih j _ _ (List.getElem?_eq_getElem k1) (List.getElem?_eq_getElem k2) w1 w2 (by show A.units + 1 + n < cLine; omega)).1
  have hz : its.toArray.size = jts.toArray.size := by simp [← v1.length, ← v2.length, hl]
  have e1 : ∀ (E : Value → Shared → Prop) (Q : Value → Shared → Prop), Q (.bool true) s → wpAny (model X.prog X.w) A (richCompare .Eq (.ref a) (.ref b)) Q E s := fun E Q q => ZkI t1 t2 hz (by omega) he q
  exact ⟨EqIn.refs e1, fun _ => ⟨e1, fun E Q q => Zlz t1 t2 hz (by omega) he q⟩⟩
def rEqP : R2 := fun x y H Q => ∃ n a c, x = .ref a ∧ y = .ref c ∧ EqP H x y n ∧ n ≤ 60 ∧ Q (.bl true) H
def rNeP : R2 := fun x y H Q => ∃ n a c, x = .ref a ∧ y = .ref c ∧ EqP H x y n ∧ n ≤ 60 ∧ Q (.bl false) H
theorem op_neP (hr : Room k X.A) : OpR X (compareOp .NotEq) rNeP := by
 intro pins s σ H x y v u Q I rx ry h
 obtain ⟨n, p, c, e1, e2, h, hn, q⟩ := h
 have hu := hr.units
 exact ((h.at I rx ry (by omega)).2 ⟨p, c, e1, e2⟩).2 _ _ ⟨.bl false, H, I, rfl, q⟩
theorem t_neP (hr : Room k X.A) (ha : QE X a ta) (hb : QE X b tb) : QT X (.Compare a [.NotEq] [b] pos) (Zdl (tOp rNeP ta tb)) := ⟨Zb7 (op_neP hr) ha.h hb.h (Zca _)⟩
end
end My
namespace My
open PySem PySem.Spec L2
open PyProof.Rows hiding St
structure BlkM (X : Cx) (ts : List Str) (caps : List Nat) (cs : List Str) (sc : Scope) (cl : List (Str × Addr)) (x : Str) : Prop where
 clos : closureFor sc X.env = pure cl
 kind : sc.kind = .function
 own : ∀ n, cellsFrom n sc.names cl = (x, n) :: cl
 own0 : ∀ n, cellsFrom n sc.names [] = [(x, n)]
 loc : ∀ y ∈ sc.names, y.2 = .local → sc.names.lookup y.1 = some .local
 sub : ∀ y c, cl.lookup y = some c → X.env.cells.lookup y = some c
 has : ∀ y, ((relabel sc X.env).names.lookup y = some .cell ∨ (relabel sc X.env).names.lookup y = some .free) → y = x ∨ ∃ c, cl.lookup y = some c
 len : caps.length = cs.length
 cap : ∀ (k : Nat) i y, caps[k]? = some i → cs[k]? = some y → X.N[i]? = some y ∧ (X.env.kindOf y = some .cell ∨ X.env.kindOf y = some .free)
 capK : ∀ y ∈ cs, (relabel sc X.env).names.lookup y = some .cell ∨ (relabel sc X.env).names.lookup y = some .free
 capX : ∀ y ∈ cs, y ≠ x
section
variable {X : Cx} {pins : List (Addr × Obj)} {σ : St} {H : Hp} {s : Shared} {ts cs : List Str} {caps : List Nat} {sc : Scope} {cl : List (Str × Addr)} {fp : List Addr} {x : Str}
variable {tg it elt : Expr} {pos : Pos} {wi : TI} {g : TG} {te : TE}
end
end My
namespace My
open PySem PySem.Spec L2
open PyProof.Rows hiding St
section
variable {prog : Program} {w : World} {A : Around} {E : Value → Shared → Prop} {s : Shared}
theorem Zgx {T : String} {r d : Addr} {n : Nat} {Pi : Nat → Value → Prop} {OK : Heap → Prop} {Q : List Value → Shared → Prop} (Ks : PySem.W.KdlSrc prog w T r d n Pi OK) (hh : A.handled = none) (hok : OK s.heap) (hn : n ≤ sizeLine)
  (h : ∀ h' tk (acc : Array Value), (∀ b o, s.heap.get? b = some o → h'.get? b = some o) → ItemsOf Pi acc n → s.heap.objs.size ≤ h'.objs.size → Q acc.toList { s with heap := h', toks := tk }) :
  wpAny (model prog w) A (collect (.ref r)) Q E s := by
 unfold collect
 refine wpAny_bind (wpAny_runValue (codeAny_builtin entry_proto_collect' ?_))
 rw [Around.under_plainId F.plain_proto_collect _]
 show wpAny _ A.in1 (newList [] >>= fun l => again (.builtin "list.__iadd__" ⟨[l, .ref r], []⟩)) _ _ s
 refine wpAny_bind (wpAny_newObj_type ?_)
 refine wpAny_pure ⟨plainId_quiet F.plain_list_iadd _, codeAny_builtin entry_list_iadd' ?_⟩
 rw [Around.under_plainId F.plain_list_iadd _]
 show wpAny _ A.in1 (Builtin.List.listExtendWith (.ref s.heap.objs.size) (.ref r) (.ref s.heap.objs.size)) _ _ _
 have lt := Ks.there _ hok
 have key := PySem.W.kdl_extend (A := A) (s := { s with heap := s.heap.push (ZdZ 0) })
  (R := fun (q : Result) (s' : Shared) => ∃ (h' : Heap) (tk : Nat) (acc : Array Value) (c' : Nat), q = .ok (.ret (.ref s.heap.objs.size)) ∧ s' = { s with heap := h', toks := tk } ∧ (∀ b o, s.heap.get? b = some o → h'.get? b = some o) ∧
   h'.get? s.heap.objs.size = some { cls := .type "list", dict := none, data := .seq acc c', slots := #[] } ∧ ItemsOf Pi acc n)
  Ks hh (Ks.keep _ _ hok fun b _ o e => Heap.get?_push_of_some _ e) s.heap.objs.size (Nat.ne_of_gt lt.1) (Nat.ne_of_gt lt.2) (.ref s.heap.objs.size) 0 (Heap.get?_push_size _ rfl)
  (fun h' tk acc c' hk g i1 => ⟨h', tk, acc, c', rfl, rfl, fun b o e => hk b o (Nat.ne_of_lt (Heap.lt_size e)) (Heap.get?_push_of_some _ e), g, i1⟩) hn
 refine wpAny_mono key (fun fin s' x => ?_) fun e s' x => ?_
 ·cases fin with
  | done f =>
   obtain ⟨h', tk, acc, c', e, rfl, hk, g, i1⟩ := x
   cases e
   show wpAny _ A (load s.heap.objs.size >>= _) _ _ _
   exact wpAny_bind (wpAny_load g (wpAny_pure (h h' tk acc hk i1 (Nat.le_of_lt (Heap.lt_size g)))))
  | again c₁ =>
   refine ⟨x.1, codeAny_mono x.2 fun q s₂ y => ?_⟩
   obtain ⟨h', tk, acc, c', rfl, rfl, hk, g, i1⟩ := y
   show wpAny _ A (load s.heap.objs.size >>= _) _ _ _
   exact wpAny_bind (wpAny_load g (wpAny_pure (h h' tk acc hk i1 (Nat.le_of_lt (Heap.lt_size g)))))
 ·obtain ⟨_, _, _, _, e', _⟩ := x
  cases e'
end
section
variable {X : Cx} {c d : Expr} {p pos : Pos} {ta : TA}
theorem q_max (hg : Gl X "max") (hm : X.mg "max" = none) (ha : QA X [c, d] ta) (hp : Zao c = true := by rfl) (hq : Zao d = true := by rfl) (hc : X.calm = true := by rfl) :
  QE X (.Call (.Name "max" p) [c, d] [] pos) (tCB (fun xs H Q => ∃ i j, xs = [.int i, .int j] ∧ Q (.int (if j > i then j else i)) H) ta) := ⟨Zb6 (Zic hc) hg hm (by decide +kernel) ha.h (by decide) (by decide) (Zak hp) (by rw [Zak hq]; rfl)⟩
def ZgG : List V → Hp → VK → Prop := fun xs H Q => ∃ (a : Addr) (kvs : List (Key × V)) (ss : List Str), xs = [.ref a] ∧ Rd H a (.dK kvs) ∧ (kvs.map fun kv => kV kv.1) = ss.map V.str ∧ ss.length < 64 ∧ ∀ l H2 (ts : List Str), H l = none → Same H H2 → H2 l = some (.lst (ts.map V.str)) → ts.Pairwise leS → ts.Perm ss → Q (.ref l) H2
theorem Zh1 (hc : X.calm = true) : CallR X (.builtin "sorted") ZgG := by
 intro pins s σ H xs us Q I r h
 obtain ⟨a, kvs, ss, rfl, e, hss, hl, q⟩ := h
 obtain ⟨u, rfl, ru⟩ := Zcc r
 cases ru
 obtain ⟨z, hd, vs, rel, dd⟩ := ZcS I.hok e
 obtain ⟨ep, at_⟩ := dd.dictAt
 have hkl : kvs.length = ss.length := by have := congrArg List.length hss; simpa using this
 refine Calls.call_function_entry kind_sorted plain_sorted entry_sorted (args_sorted1 _) ?_
 unfold Builtin.«sorted»
 refine wpAny_bind (m := checkCount "sorted" 1 1 _) (wpAny_pure ?_)
 refine wpAny_bind (Zgx (A := X.A.in1) (PySem.W.kdl_dict hd) (I.ok.hd hc) at_ (by rw [← rel.length]; exact z) fun h' tk acc hk hacc hD => ?_)
 obtain ⟨hs, hacc⟩ := hacc
 have hsz : acc.size = ss.length := by rw [hs, ← rel.length, hkl]
 have hv : Vals (ss.map V.str) acc.toList := by
  rw [← hss]
  refine ZdQ ?_ fun i x u e1 e2 => ?_
  ·rw [List.length_map, hkl, Array.length_toList]; exact hsz.symm
  ·obtain ⟨k, x', g1, g2⟩ := hacc i u (by simpa using e2)
   have hi : i < kvs.length := by have := (List.getElem?_eq_some_iff.mp e1).1; simpa using this
   obtain ⟨kv, v, g3, g4⟩ := Zj5 rel hi
   rw [g1] at g4
   cases g4
   rw [List.getElem?_map, g3] at e1
   cases e1
   exact ZkL g2
 have hS := ZcM hv
 have hal : acc.toList.length < 64 := by rw [Array.length_toList, hsz]; exact hl
 refine wpAny_bind (wpAny_newList ?_ (Nat.le_trans (Nat.le_of_lt hal) (by decide)))
 have hoL : (h'.push (seqObj "list" acc.toList.toArray 0)).get? h'.objs.size = some (seqObj "list" acc.toList.toArray 0) := Heap.get?_push_size _ rfl
 refine wpAny_bind (wpAny_holding (wpAny_call_entry slot_list_sort ⟨_, hoL, rfl⟩ entry_list_sort (list_sort_treeK strKind_oneLt hoL hS.keysOf (fun v₁ v₂ rest e => keyKind_strs (by rw [← e]; exact hS)) hal fun st' hp hs' => ⟨_, rfl, ?_⟩) (args_list_sort _)))
 obtain ⟨ts, h1, h2, h3⟩ := sorted_out_str hS hp hs'
 obtain ⟨c, e1⟩ := Zea hoL (out := (arrOf st').map (·.2))
 have hf : H h'.objs.size = none := I.hok.fresh hD
 have hol : ts.length ≤ sizeLine := by rw [h2.length_eq]; exact Nat.le_trans (Nat.le_of_lt hl) (by decide)
 refine wpAny_pure ⟨_, rfl, ?_⟩
 exact ⟨.ref h'.objs.size, upd H h'.objs.size (.lst (ts.map V.str)), I.laid (t' := tk) (o := .lst (ts.map V.str)) (fun b o eb => ZcC (Nat.ne_of_lt (Nat.lt_of_lt_of_le (Heap.lt_size eb) hD)) (Heap.get?_push_of_some _ (hk b o eb))) hD (show ObjOk X.prog X.w _ _ _ (.lst (ts.map V.str)) from ⟨by simpa using hol, ((arrOf st').map (·.2)).toList, c, ZdI h1, by rw [Array.toArray_toList]; exact e1⟩), rfl, q _ _ ts hf (ZaK hf _) upd_same (ZfB h3) h2⟩
theorem q_sortD {e : Expr} {t : TA} (hg : Gl X "sorted") (hm : X.mg "sorted" = none) (ha : QA X [e] t) (hp : Zao e = true := by rfl) (hc : X.calm = true := by rfl) : QE X (.Call (.Name "sorted" p) [e] [] pos) (tCB ZgG t) :=
 ⟨Zb6 (Zh1 hc) hg hm (by decide +kernel) ha.h (by decide) (by decide) (Zak hp) rfl⟩
end
end My
namespace My
open PySem PySem.Spec L2
open PyProof.Rows hiding St
theorem Zes : ∀ {ns : List Int} {us : List Value}, Vals (ns.map V.int) us → ∃ ps : List (Int × Tok), us = ps.map (fun p => Value.int p.1 p.2) ∧ ps.map (·.1) = ns
 | [], us, h => by cases h; exact ⟨[], rfl, rfl⟩
 | n :: ns, us, h => by
  cases h with
  | cons h1 h2 =>
   obtain ⟨t, rfl⟩ := h1
   obtain ⟨ps, rfl, e⟩ := Zes h2
   exact ⟨(n, t) :: ps, rfl, by rw [List.map_cons, e]⟩
theorem ZdB {ps : List (Int × Tok)} : ∀ i, i ≤ ps.length → preSum (numAt ps.toArray) i = ((ps.map (·.1)).take i).sum
 | 0, _ => rfl
 | i + 1, h => by
  have hi : i < ps.length := h
  show preSum (numAt ps.toArray) i + numAt ps.toArray i = _
  rw [ZdB i (Nat.le_of_lt hi), List.take_add_one, List.getElem?_map, List.getElem?_eq_getElem hi]
  simp [numAt, hi]
section
variable {X : Cx} {e : Expr} {t : TA} {p pos : Pos}
def rSumI : List V → Hp → VK → Prop := fun xs H Q => ∃ (a : Addr) (ns : List Int), xs = [.ref a] ∧ H a = some (.lst (ns.map V.int)) ∧ Q (.int ns.sum) H
theorem Zjr (hc : X.calm = true) : CallR X (.builtin "sum") rSumI := by
 intro pins s σ H xs us Q I r h
 obtain ⟨a, ns, rfl, e, q⟩ := h
 obtain ⟨u, rfl, ru⟩ := Zcc r
 cases ru
 obtain ⟨_, its, n, hv, g⟩ := I.hok a _ e
 obtain ⟨ps, rfl, ens⟩ := Zes hv
 have hL : s.heap.IsList a (intItems ps.toArray) := ⟨_, g, rfl, n, by simp [intItems]⟩
 refine call_sum_walkG (iter_intList hL fun s₂ es st hfp hlI => ?_)
 subst es
 refine ⟨_, _, _, _, _, _, numAt ps.toArray, rfl, Walks.list (A := X.A.in1) (I.ok.hd hc) _ a hlI (intItems ps.toArray), st, hfp, (fun _ _ => intItems_at), fun h' tk t' hk => ?_⟩
 have hsz : (intItems ps.toArray).size = ps.length := by simp [intItems]
 rw [hsz, ZdB _ (Nat.le_refl _), ens, List.take_of_length_le (by rw [← ens, List.length_map]; exact Nat.le_refl _)]
 exact ⟨.int ns.sum, H, I.kept (old_kept hk), ⟨t', rfl⟩, q⟩
theorem Zjk (hg : Gl X "sum") (hm : X.mg "sum" = none) (ha : QA X [e] t) (hp : Zao e = true := by rfl) (hc : X.calm = true := by rfl) : QE X (.Call (.Name "sum" p) [e] [] pos) (tCB rSumI t) :=
 ⟨Zb6 (Zjr hc) hg hm (by decide +kernel) ha.h (by decide) (by decide) (Zak hp) rfl⟩
end
end My
namespace My
open PySem PySem.Spec L2
open PyProof.Rows hiding St
section
variable {X : Cx} {pins : List (Addr × Obj)} {σ : St} {H : Hp} {s : Shared} {a : Addr} {kvs : List (Key × V)}
end
section
variable {X : Cx} {o e f : Expr} {apos cpos : Pos} {td ty tx : TE}
end
end My
namespace My
open PySem PySem.Spec L2
open PyProof.Rows hiding St
section
variable {X : Cx} {a b : Expr} {p2 pos : Pos} {tx tb : TE}
end
end My
set_option maxHeartbeats 4000000
namespace L2
open PySem PySem.Spec PyProof.Rows PySem.W
def ZfX (H : Hp) (P : Addr) (q : Str) : Prop := ∃ t, H P = some (.tbl #[.str q t])
def ZdF (mg : Str → Option Value) (h : Heap) : Prop := ∃ bm o, mg "__builtins__" = some (.ref bm) ∧ bm ≠ builtinsNs ∧ h.get? bm = some o ∧ o.cls = .type "module" ∧ o.dict = some builtinsNs ∧ o.data = .plain
theorem Ziv {P : Program} {w : World} {K : PySem.W.Frag} {mg mb : Str → Option Value} {CX : CXT} {k : Nat} {fa a : Addr} {fd : FuncData} {x : Str} {sp : Sp} {s₁ : Shared} {vs : List Value} {ns : List Int} {T : Addr → Option Str}
  (KX : K.In s₁.heap) (hns : s₁.heap.Ns mainGlobals mg) (hb : s₁.heap.Ns builtinsNs mb) (hbb : ∀ x : Str, x ≠ "__name__" → mb x = bootBuiltins x) (hlim : s₁.heap.NoLimit) (hg : s₁.gens = #[])
  (ha : s₁.heap.get? a = some { cls := .type "list", data := .seq vs.toArray }) (hi : IntsAre vs ns) (hl : ns.length ≤ sizeLine) (hr : Room k callerA)
  (hT : ∀ b q, T b = some q → (∃ c, CodeHd s₁.heap c b) ∧ s₁.heap.get? b = some (tabObj #[])) (hKT : ∀ b q, T b = some q → K.lookup b = none)
  (hB : ZdF mg s₁.heap) (F : ∀ base : Heap, K.In base → base.Ns mainGlobals mg → ZdF mg base → FnOk P w K mg base CX k fa fd [x] sp) (hbind : ∀ (s : Shared) (u : Value), BindsTo s fd ⟨[u], []⟩ [(x, u)])
  (hsp : ∀ H : Hp, (∀ b q, T b = some q → ZfX H b q) → SqL K H a (ns.map V.int) → sp [.ref a] H (fun v _ => v = .bl true) fun _ _ _ => False)
  (hCX : ∀ H e s', CX [] H s₁ (fun _ _ _ => False) e s' → False) :
  codeAny (model P w) callerA (.call (.ref fa) ⟨[.ref a], []⟩) (fun r s' => r = .ok (.ret (.bool true)) ∧ OldK s₁.heap s'.heap ∧ s'.os = s₁.os ∧ AllBare s'.gens) s₁ := by
 have rv := Zck hi
 have lenV := hi.length
 let so : Obj := { cls := .type "list", data := .seq vs.toArray }
 have hTa : T a = none := by
  cases q : T a with
  | none => rfl
  | some z =>
   have e := (hT a z q).2
   rw [ha] at e
   cases e
 -- what may be tracked: the script, or a table
 have core : ∀ H : Hp, (∀ b u, H b = some u → (b = a ∧ K.lookup a = none ∧ u = .frz so (.lst (ns.map V.int))) ∨ ∃ q, T b = some q ∧ u = .tbl #[.str q 0]) → (∀ b q, T b = some q → ZfX H b q) → SqL K H a (ns.map V.int) →
   codeAny (model P w) callerA (.call (.ref fa) ⟨[.ref a], []⟩) (fun r s' => r = .ok (.ret (.bool true)) ∧ OldK s₁.heap s'.heap ∧ s'.os = s₁.os ∧ AllBare s'.gens) s₁ := by
  intro H hO hTH hS
  have hok : HOk P w H s₁.heap := fun b u e => by
   rcases hO b u e with ⟨rfl, _, rfl⟩ | ⟨q, hq, rfl⟩
   ·exact ⟨ha, by rw [List.length_map]; exact hl, vs, _, rv, ha⟩
   ·exact ⟨#[], (hT b q hq).2, trivial, fun pos v z => by cases z⟩
  have free : ∀ {b : Addr} {o : Obj}, s₁.heap.get? b = some o → (∀ xs n, o.data ≠ .seq xs n) → (∀ ps, o.data ≠ .fields ps) → H b = none := fun {b o} e d1 d2 => by
   cases q : H b with
   | none => rfl
   | some u =>
    rcases hO b u q with ⟨rfl, _, _⟩ | ⟨z, hz, _⟩
    ·rw [ha] at e; cases e; exact absurd rfl (d1 _ _)
    ·rw [(hT b z hz).2] at e; cases e; exact absurd rfl (d2 _)
  have nsK : ∀ {b : Addr} {m : Str → Option Value}, s₁.heap.Ns b m → (Zlq s₁.heap H).Ns b m := fun {b m} ⟨o, es, ep, e, d, r⟩ =>
   ⟨o, es, ep, ZeQ e (free e (fun _ _ z => by rw [d] at z; cases z) fun _ z => by rw [d] at z; cases z), d, r⟩
  have hKb : K.In (Zlq s₁.heap H) := fun b o e => ZeQ (KX b o e) (by
   cases q : H b with
   | none => rfl
   | some u =>
    rcases hO b u q with ⟨rfl, z, _⟩ | ⟨z, hz, _⟩
    ·rw [z] at e; cases e
    ·rw [hKT b z hz] at e; cases e)
  have hM : Mod K mg (Zlq s₁.heap H) := ⟨hKb, nsK hns, ⟨mb, nsK hb, hbb⟩, let ⟨mc, h1, h2⟩ := hlim; ⟨mc, nsK h1, h2⟩⟩
  have hBb : ZdF mg (Zlq s₁.heap H) := by
   obtain ⟨bm, o, b1, b2, b3, b4, b5, b6⟩ := hB
   exact ⟨bm, o, b1, b2, ZeQ b3 (free b3 (fun _ _ z => by rw [b6] at z; cases z) fun _ z => by rw [b6] at z; cases z), b4, b5, b6⟩
  have e0 : Env0 P w K mg (Zlq s₁.heap H) callerA [] s₁ H := ⟨rfl, hM, fun b o e => of_hidT e, Nat.le_of_eq (Zh8 _ _), trivial, fun b hb => absurd (show b ∈ ([] : List Addr) from hb) (by simp), hok, .of_eq hg⟩
  refine codeAny_mono ((F _ hKb (nsK hns) hBb).run callerA [] s₁ H ⟨[.ref a], []⟩ [.ref a] [.ref a] _ _ hr e0 (hbind s₁ (.ref a)) (.cons rfl .nil) (hsp H hTH hS)) fun r s' h => ?_
  match r, h with
  | .error e, h => exact (hCX H e s' h).elim
  | .ok .next, h => exact False.elim h
  | .ok .brk, h => exact False.elim h
  | .ok .cont, h => exact False.elim h
  | .ok (.ret u), h =>
   obtain ⟨v, H', os, bare, un, hok', r', q⟩ := h
   have q' : v = .bl true := q
   subst q'
   obtain rfl : u = Value.bool true := r'
   have kept : ∀ b o, s₁.heap.get? b = some o → s'.heap.get? b = some o ∨ ∃ ps, o = tabObj #[] ∧ isCodeTable s₁.heap b ∧ s'.heap.get? b = some (tabObj ps) := fun b o e => by
    cases q : H b with
    | none => exact .inl (un.keep b o e q (by intro z; exact absurd (show b ∈ ([] : List Addr) from z) (by simp)) (by simp))
    | some u =>
     rcases hO b u q with ⟨rfl, _, rfl⟩ | ⟨z, hz, rfl⟩
     ·obtain ⟨e2, _⟩ := hok' b _ (un.frzs b _ _ q)
      rw [ha] at e
      cases e
      exact .inl e2
     ·obtain ⟨more, q2⟩ := un.tbls b _ q
      obtain ⟨ps, e2, _⟩ := hok' b _ q2
      obtain ⟨⟨c, hc⟩, e3⟩ := hT b z hz
      rw [e3] at e
      cases e
      exact .inr ⟨ps, rfl, (hc.tab e3).isCodeTable, e2⟩
   refine ⟨rfl, ⟨fun b o e => ?_, fun b o e => ?_⟩, os, bare⟩
   ·rcases kept b o e with z | ⟨ps, rfl, ht, z⟩
    ·exact .inl z
    ·exact .inr (.inl ⟨ht, rfl, #[], ps, rfl, by rw [Array.empty_append]; exact z⟩)
   ·rcases kept b o e with z | ⟨ps, rfl, ht, z⟩
    ·exact ⟨o, z⟩
    ·exact ⟨_, z⟩
 cases hk : K.lookup a with
 | some o =>
  have e := KX a o hk
  rw [ha] at e
  cases e
  refine core (fun b => (T b).map fun q => .tbl #[.str q 0]) (fun b u z => ?_) (fun b q z => ⟨0, by simp [z]⟩) (.inr ⟨_, vs.toArray, _, hk, rfl, rfl, rfl, by rw [List.size_toArray, lenV]; exact hl, by simpa using rv⟩)
  obtain ⟨q, h1, h2⟩ := Option.map_eq_some_iff.mp z
  exact .inr ⟨q, h1, h2.symm⟩
 | none =>
  refine core (fun b => if b = a then some (.frz so (.lst (ns.map V.int))) else (T b).map fun q => .tbl #[.str q 0]) (fun b u z => ?_) (fun b q z => ⟨0, ?_⟩) (.inl (.inr ⟨so, if_pos rfl⟩))
  ·by_cases hb : b = a
   ·have z' := (if_pos hb).symm.trans z
    cases z'
    exact .inl ⟨hb, hk, rfl⟩
   ·have z' := (if_neg hb).symm.trans z
    obtain ⟨q, h1, h2⟩ := Option.map_eq_some_iff.mp z'
    exact .inr ⟨q, h1, h2.symm⟩
  ·have hb : b ≠ a := fun e => by rw [e, hTa] at z; cases z
   show (if b = a then some (HO.frz so (.lst (ns.map V.int))) else (T b).map fun q => .tbl #[.str q 0]) = _
   rw [if_neg hb, z]
   rfl
theorem Zhg (pos pos' : Pos) (c : Value) (l : List Value) (h : TriplesOk l) (v : Value) (e : codeAmong pos' (l ++ [rawInt pos.line, rawInt pos.col, c]) = some v) : codeAmong pos' l = some v ∨ v = c := by
 fun_induction TriplesOk l with
 | case1 =>
  simp only [List.nil_append, codeAmong, rawInt] at e
  split at e
  ·cases e; exact .inr rfl
  ·cases e
 | case2 a t b u x rest ih =>
  simp only [List.cons_append, codeAmong] at e ⊢
  split at e
  ·rename_i q
   rw [if_pos q]
   exact .inl e
  ·rename_i q
   rw [if_neg q]
   exact ih h e
 | case3 => exact h.elim
def tLam (P : Addr) (q : Str) (clos : List (Str × Addr)) (params : Arguments) (body : Expr) (scope : Scope) : TE := fun _ H Q =>
 ∃ t, H P = some (.tbl #[.str q t]) ∧ ∀ (f c' : Addr) (oc : Obj) (pm ctv : Value) (vs : Array Value) (t' : Tok) (H2 : Hp), H f = none → H2 f = some (.frz (kla_obj "<lambda>" q params body scope clos pm c' ctv) (.own P)) →
  H2 c' = some (.frz oc (.own P)) → oc.data = .fields vs → vs[1]? = some (.str q t') → Same H H2 → Q (.ref f) H2
theorem pe_lam {X : Cx} {params : Arguments} {body : Expr} {scope : Scope} {pos : Pos} {c P : Addr} {q : Str} {clos : List (Str × Addr)} (hdef : defaultsOf params X.env = ([], [])) (hcl : closureFor scope X.env = pure clos) (hcode : X.env.code = .ref c)
  (hC : CodeHd X.base c P) (hb : X.base.BuiltinsAt X.mg P) (hq : X.env.qual ++ "<lambda>" = q) : PE X (.Lambda params body scope pos) (tLam P q clos params body scope) := by
 intro pins s σ H Q I ⟨t, hP, k⟩
 subst hq
 obtain ⟨qs, e, ht, hf⟩ := I.hok P _ hP
 have hgs : s.heap.Ns mainGlobals X.mg := I.ok.mod.glob.keeps I.bk
 obtain ⟨bm, ob, b1, b2, b3, b4, b5, b6⟩ := hb
 have hb' : s.heap.BuiltinsAt X.mg P := ⟨bm, ob, b1, b2, b3, b4, I.bk _ _ b5, b6⟩
 have hgP : mainGlobals ≠ P := fun z => by
  obtain ⟨o, es, ep, e1, _⟩ := I.ok.mod.glob
  have := (I.bs _ _ e1).2
  rw [z, hP] at this
  cases this
 have same : ∀ {f : Addr} {u : HO}, H f = none → Same H (upd H f u) := fun h b o z => by rw [Zae (Zaj z h)]; exact z
 cases hn : codeAmong pos qs.toList with
 | some v =>
  obtain ⟨c', oc, vs, q0, t0, t1, rfl, h1, h2, h3, h4⟩ := hf pos v hn
  have hq0 : q0 = X.env.qual ++ "<lambda>" := by
   have h5 : some (Value.str (X.env.qual ++ "<lambda>") t) = some (.str q0 t1) := h4
   cases h5
   rfl
  subst hq0
  refine kla_eval hdef (kla_makeFunctionHit (mg := X.mg) hcl I.ok.glob hgs hcode (hC.keeps I.bk) e ht hn hb' fun ctv h' tk hk hsz => ?_)
  have hF : H h'.objs.size = none := I.hok.fresh hsz
  refine ⟨.ref h'.objs.size, upd H h'.objs.size (.frz _ (.own P)), I.laid (t' := tk) (fun b o z => Heap.get?_push_of_some _ (hk b o z)) hsz ⟨Heap.get?_push_size _ rfl, ⟨_, Heap.get?_push_size _ rfl⟩⟩, rfl, ?_⟩
  exact k _ c' oc _ ctv vs t0 _ hF upd_same (same hF _ _ h1) h2 h3 (same hF)
 | none =>
  refine kla_eval hdef (kla_makeFunction (mg := X.mg) hcl I.ok.glob hgs hcode (hC.keeps I.bk) e ht hn hgP hb' fun c' ctv h' tk hx hge hlt hrec htb => ?_)
  obtain ⟨c2, oc, vs, t2, e2, hoc, hd, hv⟩ := hrec
  cases e2
  have hc : H c' = none := I.hok.fresh hge
  have hF0 : s.heap.objs.size ≤ h'.objs.size := Nat.le_trans hge (Nat.le_of_lt hlt)
  have hF : H h'.objs.size = none := I.hok.fresh hF0
  have hne : c' ≠ h'.objs.size := Nat.ne_of_lt hlt
  let fo : Obj := kla_obj "<lambda>" (X.env.qual ++ "<lambda>") params body scope clos ((X.mg "__name__").getD .none) c' ctv
  let H1 : Hp := upd H c' (.frz oc (.own P))
  let H2 : Hp := upd H1 h'.objs.size (.frz fo (.own P))
  have hF1 : H1 h'.objs.size = none := by show upd H c' _ _ = _; rw [Zae (Ne.symm hne)]; exact hF
  have old : ∀ b o, H b = some o → H2 b = some o := fun b o z => by
   show upd H1 _ _ b = _
   rw [Zae (Zaj (same hc b o z) hF1)]
   exact same hc b o z
  have keep : ∀ b u, b ≠ P → s.heap.get? b = some u → (h'.push fo).get? b = some u := fun b u hb z => Heap.get?_push_of_some _ (hx b u hb z)
  have neP : ∀ b, H b = none → b ≠ P := fun b z w => by rw [w, hP] at z; cases z
  have atc : H2 c' = some (.frz oc (.own P)) := by show upd H1 _ _ c' = _; rw [Zae hne]; exact upd_same
  have tab : (h'.push fo).get? P = some (tabObj (qs ++ #[rawInt pos.line, rawInt pos.col, .ref c'])) := Heap.get?_push_of_some _ htb
  have un : Un X.fs [] H H2 s.heap (h'.push fo) := ⟨fun b o z n _ _ => keep b o (neP b n) z, fun b o z n _ _ => ⟨o.slots, keep b o (neP b n) z⟩, fun b o z n _ => by
    have hlt : b < s.heap.objs.size := Heap.lt_size z
    show upd H1 _ _ b = _
    rw [Zae (Nat.ne_of_lt (Nat.lt_of_lt_of_le hlt hF0))]
    show upd H _ _ b = _
    rw [Zae (Nat.ne_of_lt (Nat.lt_of_lt_of_le hlt hge))]
    exact n, fun b o z _ => by
    by_cases w : b = P
    ·subst w; exact ⟨_, tab⟩
    ·exact ⟨o, keep b o w z⟩, fun b xs z => old b _ z, fun b o u z => old b _ z, fun b ps z => ⟨#[], by rw [Array.append_empty]; exact old b _ z⟩⟩
  have hok : HOk X.prog X.w H2 (h'.push fo) := fun b u z => by
   by_cases w1 : b = h'.objs.size
   ·subst w1
    have z' : some (HO.frz fo (.own P)) = some u := upd_same.symm.trans z
    cases z'
    exact ⟨Heap.get?_push_size _ rfl, ⟨_, Heap.get?_push_size _ rfl⟩⟩
   ·by_cases w2 : b = c'
    ·subst w2
     rw [atc] at z
     cases z
     exact ⟨Heap.get?_push_of_some _ hoc, ⟨_, Heap.get?_push_of_some _ hoc⟩⟩
    ·have z' : H b = some u := by
      have z2 : upd H1 h'.objs.size (.frz fo (.own P)) b = some u := z
      rw [Zae w1] at z2
      have z3 : upd H c' (.frz oc (.own P)) b = some u := z2
      rw [Zae w2] at z3
      exact z3
     by_cases w3 : b = P
     ·subst w3
      rw [hP] at z'
      cases z'
      refine ⟨_, tab, ?_, fun pos' v g => ?_⟩
      ·rw [Array.toList_append]; exact TriplesOk_snoc _ _ _ _ ht
      ·rw [Array.toList_append] at g
       rcases Zhg pos pos' _ _ ht v g with g | g
       ·obtain ⟨c3, o3, v3, q3, t3, t4, g1, g2, g3⟩ := hf pos' v g
        exact ⟨c3, o3, v3, q3, t3, t4, g1, old _ _ g2, g3⟩
       ·exact ⟨c', oc, vs, _, t2, t, g, atc, hd, hv, rfl⟩
     ·refine (I.hok b u z').stay (fun x v hxx g => keep x v (fun w => ?_) g) (fun x g => old x _ g) (fun x xs g => old x _ g) fun x o g => old x _ g
      rcases hxx with w4 | w4
      ·exact w3 (w4.symm.trans w)
      ·rw [w, hP] at w4
       cases w4
  exact ⟨.ref h'.objs.size, H2, I.un (t' := tk) un hok, rfl, k _ c' oc _ ctv vs t2 H2 hF upd_same atc hd hv old⟩
theorem Zcw {u : Value} {y : Str} : ∀ {ps : List Str} {us : List Value} {i : Nat}, ps.Nodup → us.length = ps.length → ps[i]? = some y → us[i]? = some u → (ps.zip us).reverse.lookup y = some u
 | [], _, _, _, _, h, _ => by simp at h
 | _ :: _, [], _, _, h, _, _ => by simp at h
 | p :: ps, v :: us, 0, nd, _, h1, h2 => by
  simp at h1 h2
  subst h1 h2
  rw [List.zip_cons_cons, List.reverse_cons]
  have : (ps.zip us).reverse.lookup p = none := by
   rw [List.lookup_eq_none_iff]
   intro z hz
   have hz' := (List.of_mem_zip (a := z.1) (b := z.2) (List.mem_reverse.mp hz)).1
   simp only [beq_eq_false_iff_ne, ne_eq, Bool.not_eq_true, bne_iff_ne]
   intro e
   exact (List.nodup_cons.mp nd).1 (by rw [e]; exact hz')
  rw [List.lookup_append, this]
  simp
 | p :: ps, v :: us, i + 1, nd, hl, h1, h2 => by
  rw [List.zip_cons_cons, List.reverse_cons, List.lookup_append, Zcw (List.nodup_cons.mp nd).2 (by simpa using hl) (by simpa using h1) (by simpa using h2)]
  rfl
def Zku (CX : CXT) (P : Program) (w : World) (K : PySem.W.Frag) (mg : Str → Option Value) (base : Heap) (N : List Str) (q : Str) (scope : Scope) (f c' : Addr) (clos : List (Str × Addr)) (A : Around) (outer : List Env) (s : Shared) (H : Hp) (E : XK) : Cx where
 prog := P
 w := w
 K := K
 mg := mg
 base := base
 A := A.deeper (envX q scope s.heap.objs.size f (.ref c') clos)
 N := N
 s₀ := s
 H₀ := H
 env := envX q scope s.heap.objs.size f (.ref c') clos
 outer := outer
 stack := envX q scope s.heap.objs.size f (.ref c') clos :: outer
 ex := []
 calm := true
 fn := fun _ => false
 pn := []
 xe := fun e s' => wpAny (model P w) (A.deeper (envX q scope s.heap.objs.size f (.ref c') clos)) (leaving (envX q scope s.heap.objs.size f (.ref c') clos) e) (fun _ s'' => CX outer H s E e s'') (fun e' s'' => CX outer H s E e' s'') s'
structure LamScope (ps fs : List Str) (sc : Scope) (clos : List (Str × Addr)) : Prop where
 kind : sc.kind = .function
 co : sc.isCoroutine = false
 gen : sc.isGenerator = false
 nd : (ps ++ fs).Nodup
 par : ∀ x ∈ ps, sc.names.lookup x = some .local
 fre : ∀ x ∈ fs, sc.names.lookup x = some .free
 nocell : ∀ y ∈ sc.names, y.2 ≠ .cell
 has : ∀ y, sc.names.lookup y = some .free → ∃ c, clos.lookup y = some c
structure Frees (fs : List Str) (ws : List V) (clos : List (Str × Addr)) (outer : List Env) (H : Hp) (h : Heap) : Prop where
 len : fs.length = ws.length
 val : ∀ (i : Nat) (x : Str) (v : V), fs[i]? = some x → ws[i]? = some v → ∃ c u, clos.lookup x = some c ∧ RelV v u ∧ h.IsCell c (some u)
 cell : ∀ x c, clos.lookup x = some c → (∃ v, h.IsCell c v) ∧ H c = none
 inj : ∀ x y c, clos.lookup x = some c → clos.lookup y = some c → x = y
theorem lam_of {CX : CXT} {P : Program} {w : World} {K : PySem.W.Frag} {mg : Str → Option Value} {base : Heap} {k : Nat} {f c' : Addr} {q : Str} {params : Arguments} {body : Expr} {scope : Scope} {clos : List (Str × Addr)} {pm ctv : Value} {ps fs : List Str}
  {A : Around} {outer : List Env} {s : Shared} {H : Hp} {args : Args} {us : List Value} {vs ws : List V} {Q : VK} {E : XK} {t : TE}
  (hr : Room (k + 1) A) (e0 : Env0 P w K mg base A outer s H) (ho : s.heap.get? f = some (kla_obj "<lambda>" q params body scope clos pm c' ctv)) (hcd : s.heap.CodeRec (.ref c') q)
  (hbind : bindArgs (kla_fn "<lambda>" q params body scope clos pm (.ref c') ctv) args = pure (ps.zip us)) (hl : vs.length = ps.length) (r : Vals vs us) (S : LamScope ps fs scope clos) (W : Frees fs ws clos outer H s.heap)
  (hbody : PE (Zku CX P w K mg base (ps ++ fs) q scope f c' clos A outer s H E) body t) (hq : t ((vs ++ ws).map some) H Q) : codeAny (model P w) A (.call (.ref f) args) (CR CX outer P w H s Q E) s := by
 have lim : s.heap.NoLimit := e0.mod.nolimit.keeps fun b o e => (e0.bs b o e).1
 have hlu : us.length = ps.length := by rw [← r.length]; exact hl
 refine kla_callFunE (by have := hr.dp; omega) ho rfl S.co S.gen rfl hcd ?_
 rw [hbind]
 refine wpAny_pure (wpAny_newFunctionEnv S.nocell (fun y hy => S.par _ (List.of_mem_zip hy).1) (fun h₁ hns hsb => ⟨lim.fresh _ hsb, ?_⟩) S.kind)
 show codeAny _ _ (.expr body (envX q scope s.heap.objs.size f (.ref c') clos)) _ _
 have hk : ∀ b o, s.heap.get? b = some o → h₁.get? b = some o := fun b o e => hsb.extBut b o (Nat.ne_of_lt (Heap.lt_size e)) (Heap.get?_push_of_some _ e)
 have I : Inv (Zku CX P w K mg base (ps ++ fs) q scope f c' clos A outer s H E) [] ((vs ++ ws).map some) H { s with heap := h₁, toks := s.toks + (ps.zip us).length } := by
  have noA : ∀ b : Addr, b ∉ (Zku CX P w K mg base (ps ++ fs) q scope f c' clos A outer s H E).ex := fun b z => absurd (show b ∈ ([] : List Addr) from z) (by simp)
  refine ⟨⟨e0.mod, S.kind, rfl, rfl, Nat.le_refl _, W.inj, fun y hy => ?_, fun y c z _ => absurd z Bool.false_ne_true, fun _ => hr.hd, Around.frames_deeper e0.frames, .inr ⟨rfl, rfl⟩, fun b z => absurd z (noA b), e0.bs, e0.bsz, fun b _ _ => noA b, fun b z => absurd z (noA b), e0.funs, e0.frf⟩,
   rfl, e0.bare, Un.kept hk, ⟨_, hns, fun i y v h1 h2 h3 => ?_⟩, fun y c h => ?_, e0.hok.fresh (Nat.le_refl _), fun y c h => (W.cell y c h).2, fun p hp => absurd (show p ∈ ([] : List (Addr × Obj)) from hp) (by simp), e0.hok.kept hk, ?_⟩
  ·have hy : scope.names.lookup y = some .cell ∨ scope.names.lookup y = some .free := hy
   rcases hy with hy | hy
   ·exact absurd rfl (S.nocell _ (PySem.mem_of_lookup hy))
   ·exact S.has y hy
  ·have h1 : (ps ++ fs)[i]? = some y := h1
   rw [List.getElem?_map] at h2
   obtain ⟨v', h2, h4⟩ := Option.map_eq_some_iff.mp h2
   cases h4
   by_cases hi : i < ps.length
   ·rw [List.getElem?_append_left hi] at h1
    rw [List.getElem?_append_left (by omega)] at h2
    obtain ⟨u, hu, rv⟩ := r.get h2
    refine ⟨u, rv, .inl ⟨S.par y (List.mem_of_getElem? h1), ?_⟩⟩
    have nd : ps.Nodup := (List.nodup_append.mp S.nd).1
    exact Zcw nd hlu h1 hu
   ·rw [List.getElem?_append_right (by omega)] at h1
    rw [List.getElem?_append_right (by omega), hl] at h2
    obtain ⟨c, u, g1, g2, g3⟩ := W.val _ y v h1 h2
    obtain ⟨o, g4, g5⟩ := g3
    exact ⟨u, g2, .inr ⟨.inr (S.fre y (List.mem_of_getElem? h1)), c, g1, o, hk _ _ g4, g5⟩⟩
  ·obtain ⟨⟨v, o, g1, g2⟩, _⟩ := W.cell y c h
   exact ⟨v, o, hk _ _ g1, g2⟩
  ·show ((vs ++ ws).map some).length = (ps ++ fs).length
   rw [List.length_map, List.length_append, List.length_append, hl, W.len]
 refine kla_codeExpr (wpAny_mono (hbody [] _ _ H Q I hq) (fun v s' hs => ?_) fun e s' hs => hs)
 obtain ⟨x, H', J, rv, g⟩ := hs
 exact ⟨x, H', J.os, J.bare, J.base, J.hok, rv, g⟩
end L2
namespace My
open PySem PySem.Spec L2
open PyProof.Rows hiding St
def led3 (h : Heap) (ex : List Addr) : List (Addr × Obj) := (List.range h.objs.size).filterMap fun a => if a ∈ ex then none else (h.get? a).map fun o => (a, o)
theorem mem_led3 {h : Heap} {ex : List Addr} {a : Addr} {o : Obj} : (a, o) ∈ led3 h ex ↔ a ∉ ex ∧ h.get? a = some o := by
 unfold led3
 rw [List.mem_filterMap]
 constructor
 ·rintro ⟨b, _, e⟩
  split at e
  ·cases e
  ·rename_i hb
   obtain ⟨o', ho, e'⟩ := Option.map_eq_some_iff.mp e
   cases e'
   exact ⟨hb, ho⟩
 ·rintro ⟨n1, ho⟩
  refine ⟨a, List.mem_range.mpr (Heap.lt_size ho), ?_⟩
  rw [if_neg n1, ho] <;> rfl
def Zeb (b : Bool) (ks : List Int) (xs ys : List V) : Prop := ∃ ps : List (Int × V), ps.Perm (ks.zip xs) ∧ ys = ps.map Prod.snd ∧ ps.Pairwise (fun p q => if b then q.1 ≤ p.1 else p.1 ≤ q.1)
theorem Zjv {zs : List (Int × V)} {ws ps : List (Int × Value)} (h : Paired (fun (p : Int × V) (q : Int × Value) => p.1 = q.1 ∧ RelV p.2 q.2) zs ws) (p : ps.Perm ws) : ∃ qs : List (Int × V), qs.Perm zs ∧ Paired (fun (p : Int × V) (q : Int × Value) => p.1 = q.1 ∧ RelV p.2 q.2) qs ps := by
 induction p generalizing zs with
 | nil => exact ⟨zs, .refl _, h⟩
 | @cons x l1 l2 _ ih =>
  cases h with
  | @cons a b as bs h1 h2 =>
   obtain ⟨qs, g1, g2⟩ := ih h2
   exact ⟨_ :: qs, .cons _ g1, .cons h1 g2⟩
 | @swap x y l =>
  cases h with
  | @cons a b as bs h1 h2 =>
   cases h2 with
   | @cons c d cs ds h3 h4 => exact ⟨_, .swap _ _ _, .cons h3 (.cons h1 h4)⟩
 | @trans l1 l2 l3 _ _ ih1 ih2 =>
  obtain ⟨q2, g1, g2⟩ := ih2 h
  obtain ⟨q1, g3, g4⟩ := ih1 g2
  exact ⟨q1, g3.trans g1, g4⟩
theorem ZgB : ∀ {ks : List Int} {xs : List V} {vs : List Value}, Vals xs vs → Paired (fun (p : Int × V) (q : Int × Value) => p.1 = q.1 ∧ RelV p.2 q.2) (ks.zip xs) (ks.zip vs)
 | [], _, _, _ => by rw [List.zip_nil_left, List.zip_nil_left]; exact .nil
 | _ :: _, _, _, .nil => .nil
 | k :: ks, _, _, .cons h1 h2 => .cons ⟨rfl, h1⟩ (ZgB h2)
theorem ZlC {b : Bool} {ks : List Int} {xs : List V} {vs out : List Value} (hv : Vals xs vs) (h : KskOut b ks vs out) : ∃ ys, Vals ys out ∧ Zeb b ks xs ys := by
 obtain ⟨ps, h1, rfl, h3⟩ := h
 obtain ⟨qs, g1, g2⟩ := Zjv (ZgB (ks := ks) hv) h1
 refine ⟨qs.map Prod.snd, ?_, qs, g1, rfl, ?_⟩
 ·clear h1 h3 g1
  induction g2 with
  | nil => exact .nil
  | cons h _ ih => exact .cons h.2 ih
 ·clear h1 g1
  induction g2 with
  | nil => exact .nil
  | @cons p q ps' qs' h t ih =>
   rw [List.pairwise_cons] at h3 ⊢
   refine ⟨fun x hx => ?_, ih h3.2⟩
   have : ∃ y ∈ qs', x.1 = y.1 := by
    clear ih h3
    induction t with
    | nil => cases hx
    | cons h' _ ih' =>
     rcases List.mem_cons.mp hx with rfl | hx
     ·exact ⟨_, List.mem_cons_self .., h'.1⟩
     ·obtain ⟨y, hy, e⟩ := ih' hx
      exact ⟨y, List.mem_cons_of_mem _ hy, e⟩
   obtain ⟨y, hy, e⟩ := this
   have := h3.1 y hy
   rw [h.1, e]
   exact this
end My
namespace My
open PySem PySem.Spec L2
open PyProof.Rows hiding St
section
variable {X : Cx} {pins : List (Addr × Obj)} {σ : St} {H : Hp} {s : Shared} {l : Addr} {xs : List V} {ks : List Int} {b : Bool} {f : Value} {kw : List (Str × Value)} {E : Value → Shared → Prop} {Q : Value → Shared → Prop}
theorem ZkT {D kS : Addr} {oK oD : Obj} {H1 : Hp} {s1 : Shared} {h' : Heap} {tk c : Nat} {out : Array Value} {ys : List V} (I : Inv X (pins ++ [(kS, oK), (D, oD)]) σ H1 s1) (fD : Zdk X pins H1 D) (fK : Zdk X pins H1 kS)
  (ns : ∀ m, s1.heap.Ns X.env.locals m → h'.Ns X.env.locals m) (kp : ∀ a o, a ≠ X.env.locals → a ≠ kS → a ≠ D → s1.heap.get? a = some o → h'.get? a = some o) (eD : h'.get? D = some (seqObj "list" out c)) (hz : ys.length ≤ sizeLine) (hv : Vals ys out.toList) :
  Inv X pins σ (upd H1 D (.lst ys)) { s1 with heap := h', toks := tk } := by
 have I0 : Inv X pins σ H1 s1 := I.unpinned
 have ne : ∀ {a : Addr} {o : HO}, H1 a = some o → a ≠ D ∧ a ≠ kS := fun e => ⟨Zaj e fD.1, Zaj e fK.1⟩
 have off : ∀ {a : Addr} {o : HO}, H1 a = some o → upd H1 D (.lst ys) a = some o := fun e => by rw [Zae (ne e).1]; exact e
 refine I0.step (g' := s1.gens) (d' := s1.drawn) (t' := tk) (ch := [kS, D]) (fun a ha => ?_) (fun a o h1 _ hc e _ => ?_) (fun a o h1 _ hc e _ => ?_) (fun a o hc e n => ?_) (fun a o hc e => ?_) (fun a zs e => off e) (fun a o u e => off e) (fun a ps e => ⟨#[], by rw [Array.append_empty]; exact off e⟩) ns (fun a u e => ?_) I0.bare
 ·rcases List.mem_cons.mp ha with rfl | ha
  ·exact ⟨fK.2.2.2.1, fK.2.1, fK.2.2.2.2.1, fK.2.2.2.2.2⟩
  ·rw [List.mem_singleton.mp ha]
   exact ⟨fD.2.2.2.1, fD.2.1, fD.2.2.2.2.1, fD.2.2.2.2.2⟩
 ·exact kp a o h1 (fun z => hc (by simp [z])) (fun z => hc (by simp [z])) e
 ·exact ⟨o.slots, kp a o h1 (fun z => hc (by simp [z])) (fun z => hc (by simp [z])) e⟩
 ·rw [Zae (fun z => hc (by simp [z]))]
  exact n
 ·by_cases z : a = X.env.locals
  ·subst z
   obtain ⟨m, hn, _⟩ := I0.loc
   obtain ⟨o', _, _, e', _⟩ := ns m hn
   exact ⟨o', e'⟩
  ·exact ⟨o, kp a o z (fun z => hc (by simp [z])) (fun z => hc (by simp [z])) e⟩
 ·by_cases z : a = D
  ·subst z
   rw [upd_same] at e
   cases e
   exact ⟨hz, out.toList, c, hv, by simpa using eD⟩
  ·rw [Zae z] at e
   have trk : ∀ c' : Addr, (c' = a ∨ H1 c' = some (.own a)) → c' ≠ X.env.locals ∧ c' ≠ kS ∧ c' ≠ D := fun c' hc => by
    have : ∃ o', H1 c' = some o' := by
     rcases hc with rfl | hc
     ·exact ⟨_, e⟩
     ·exact ⟨_, hc⟩
    obtain ⟨o', e'⟩ := this
    exact ⟨(fun w => by rw [w, I0.free] at e'; cases e'), (ne e').2, (ne e').1⟩
   refine (I0.hok a u e).stay (fun c' v hc q => ?_) (fun c' q => off q) (fun c' zs q => off q) fun c' o q => off q
   obtain ⟨n1, n2, n3⟩ := trk c' hc
   exact kp c' v n1 n2 n3 q
theorem ZlH {D kS : Addr} {e1 : Nat} {vs : List Value} {P : PySem.Fin → Shared → Prop} {s0 : Shared} {H0 : Hp} (I : Inv X (pins ++ [(kS, seqObj "list" #[] 0), (D, seqObj "list" #[] e1)]) σ H0 s0) (sH : Same H H0) (hHD : H D = none) (fD : Zdk X pins H0 D) (fK : Zdk X pins H0 kS) (hDK : kS ≠ D) (hv : Vals xs vs) (hlen : ks.length = xs.length) (h64 : xs.length < 64)
  (turn : ∀ (i : Nat) (x : V) (k : Int), xs[i]? = some x → ks[i]? = some k → ∀ (pins' : List (Addr × Obj)) (H' : Hp) (s' : Shared) (u : Value), Inv X pins' σ H' s' → Same H H' → RelV x u →
   wpAny (model X.prog X.w) X.A.in1.in1 (call f [u]) (fun v s'' => ∃ t H'', v = .int k t ∧ Inv X pins' σ H'' s'' ∧ Same H' H'') (fun _ _ => False) s')
  (h : ∀ (H' : Hp) (s' : Shared) (ys : List V), Inv X pins σ H' s' → Same H H' → H' D = some (.lst ys) → Zeb b ks xs ys → P (.done (.ret .none)) s') :
  wpAny (model X.prog X.w) X.A.in1.in1 (ksk_rest D f b vs.toArray e1 (.ref kS)) P E s0 := by
 have hvl : vs.length = xs.length := hv.length.symm
 have mK : ∀ {oK oD : Obj}, (kS, oK) ∈ X.pn ++ (pins ++ [(kS, oK), (D, oD)]) := List.mem_append_right _ (List.mem_append_right _ (.head _))
 have mD : ∀ {oK oD : Obj}, (D, oD) ∈ X.pn ++ (pins ++ [(kS, oK), (D, oD)]) := List.mem_append_right _ (List.mem_append_right _ (.tail _ (.head _)))
 unfold ksk_rest
 refine wpAny_bind (wpAny_rule ?_)
 first
  | rw [List.forIn_toArray]
  | (rw [← Array.forIn_toList]; simp only [List.toList_toArray])
  | rw [← Array.forIn_toList]
 refine wpAny_bind (ksk_fold (fun i s' => ∃ kA e H', Inv X (pins ++ [(kS, seqObj "list" kA e), (D, seqObj "list" #[] e1)]) σ H' s' ∧ Same H H' ∧ IntsAre kA.toList (ks.take i)) vs 0 s0 ⟨#[], 0, H0, I, sH, by simpa using IntsAre.nil⟩ ?step ?done)
 case step =>
  rintro j x s' hx ⟨kA, e, H1, I1, sH1, hk⟩
  simp only [Nat.zero_add] at hk ⊢
  have hj : j < vs.length := (List.getElem?_eq_some_iff.mp hx).1
  obtain ⟨k, hkj⟩ : ∃ k, ks[j]? = some k := ⟨_, List.getElem?_eq_getElem (by omega)⟩
  have hxj : xs[j]? = some xs[j] := List.getElem?_eq_getElem (by omega)
  obtain ⟨u, hu, rv⟩ := hv.get hxj
  rw [hx] at hu
  cases hu
  have hz : kA.size ≤ vs.length := by
   have h1 := hk.length
   rw [Array.length_toList, List.length_take] at h1
   omega
  refine wpAny_bind (wpAny_attempt (wpAny_mono (turn j _ k hxj hkj _ H1 s' x I1 sH1 rv) (fun v s'' he => ?_) fun _ _ hF => hF.elim))
  obtain ⟨t, H2, rfl, I2, sH2⟩ := he
  try dsimp only
  have nk := I2.pin (kS, seqObj "list" kA e) mK
  have na := I2.pin (D, seqObj "list" #[] e1) mD
  have s1 := Heap.SameBut.update s''.heap kS (Obj.mapSeq (·.push (.int k t)))
  obtain ⟨c2, hc2⟩ : ∃ c2, (s''.heap.update kS (Obj.mapSeq (·.push (.int k t)))).get? kS = some (seqObj "list" (kA.push (.int k t)) c2) := ⟨_, get?_update_seq nk.1 (·.push (.int k t))⟩
  have ek : ks.take (j + 1) = ks.take j ++ [k] := by rw [List.take_add_one, hkj]; simp
  have ea : (kA.push (Value.int k t)).toList = kA.toList ++ [Value.int k t] := by simp
  refine wpAny_bind (listUpdate_at nk.1 rfl ?_ (by rw [sizeLine_eq]; omega) (Nat.le_trans (Nat.le_of_eq (Array.size_push ..)) (by rw [sizeLine_eq]; omega)))
  have I3 : Inv X pins σ H2 s'' := I2.unpinned
  have I4 : Inv X pins σ H2 { s'' with heap := s''.heap.update kS (Obj.mapSeq (·.push (.int k t))), toks := s''.toks } := I3.turned (fun b o hb q => (s1.2 b hb).trans q) nk.2.1 fK.2.1 fK.2.2.2.1 fK.2.2.2.2.1 fK.2.2.2.2.2
  refine wpAny_pure ⟨rfl, kA.push (.int k t), c2, H2, I4.pins_of fun p hp => ?_, sH1.trans sH2, by rw [ea, ek]; exact ksk_snoc hk⟩
  rcases List.mem_append.mp hp with hp | hp
  ·exact I4.pin p (List.mem_append_right _ hp)
  ·rcases List.mem_cons.mp hp with rfl | hp
   ·exact ⟨hc2, nk.2.1, nk.2.2.1, nk.2.2.2.1, fun v z => by cases z⟩
   ·rw [List.mem_singleton.mp hp]
    exact ⟨(s1.2 D hDK.symm).trans na.1, na.2.1, na.2.2.1, na.2.2.2.1, fun v z => by cases z⟩
 case done =>
  rintro s' ⟨kA, e, H1, I1, sH1, hk⟩
  have hk' : IntsAre kA.toList ks := by
   have e3 : ks.take (0 + vs.length) = ks := List.take_of_length_le (by omega)
   rw [e3] at hk
   exact hk
  have nk := I1.pin (kS, seqObj "list" kA e) mK
  have na := I1.pin (D, seqObj "list" #[] e1) mD
  obtain ⟨m0, hn, _⟩ := id I1.loc
  try dsimp only
  refine wpAny_bind (listItems_at nk.1 rfl ?_)
  have N : News (Att.noObjs s'.heap) X.env.locals s'.heap (led3 s'.heap [X.env.locals, kS, D] ++ [(kS, seqObj "list" kA e), (D, seqObj "list" #[] e1)]) := by
   rintro ⟨a, o⟩ hp
   rcases List.mem_append.mp hp with hp | hp
   ·obtain ⟨g1, g2⟩ := mem_led3.mp hp
    exact ⟨g2, fun z => g1 (by simp [show a = X.env.locals from z]), Att.noObjs_get _ _⟩
   ·rcases List.mem_cons.mp hp with q | hp
    ·cases q
     exact ⟨nk.1, fK.2.1, Att.noObjs_get _ _⟩
    ·cases List.mem_singleton.mp hp
     exact ⟨na.1, fD.2.1, Att.noObjs_get _ _⟩
  refine ksk_end_ (h₀ := Att.noObjs s'.heap) (L := X.env.locals) (m := m0) (Att.fr_all hn) N hDK (fun p hp z => ?_) (fun p hp z => ?_) hk' (by omega) (by omega) fun h3 tk3 out c F3 N3 k3 => ?_
  ·obtain ⟨a, o⟩ := p
   exact (mem_led3.mp hp).1 (by simp [show a = kS from z])
  ·obtain ⟨a, o⟩ := p
   exact (mem_led3.mp hp).1 (by simp [show a = D from z])
  ·obtain ⟨ys, hys, hsk⟩ := ZlC hv k3
   have hyl : ys.length = xs.length := by
    obtain ⟨ps, g1, g2, _⟩ := hsk
    rw [g2, List.length_map, g1.length_eq, List.length_zip]
    omega
   have fD1 : Zdk X pins H1 D := ⟨na.2.1, fD.2⟩
   have fK1 : Zdk X pins H1 kS := ⟨nk.2.1, fK.2⟩
   refine h _ _ ys (ZkT (tk := tk3) (c := c) (out := out) I1 fD1 fK1 (fun m hm => ?_) (fun a o n1 n2 n3 q => ?_) (N3 (D, seqObj "list" out c) (List.mem_cons_self ..)).1 (by rw [hyl, sizeLine_eq]; omega) hys) (Zam hHD sH1) upd_same hsk
   ·rw [hm.eq_nsMap, ← hn.eq_nsMap]
    exact F3.ns
   ·exact (N3 (a, o) (List.mem_cons_of_mem _ (mem_led3.mpr ⟨by simp [n1, n2, n3], q⟩))).1
theorem Zhl (I : Inv X pins σ H s) (hl : H l = some (.lst xs)) (h64 : xs.length < 64)
  (ha1 : argsOk "sorted" ⟨[.ref l], kw⟩) (ha2 : ∀ x, argsOk "list.sort" ⟨[.ref x], kw⟩) (ht : ∀ x, Builtin.«list.sort» ⟨[.ref x], kw⟩ = ksk_tree x f b)
  (rest : ∀ (D kS : Addr) (e1 : Nat) (vs : List Value) (s0 : Shared) (P : PySem.Fin → Shared → Prop), Inv X (pins ++ [(kS, seqObj "list" #[] 0), (D, seqObj "list" #[] e1)]) σ H s0 → H D = none → Zdk X pins H D → Zdk X pins H kS → kS ≠ D → Vals xs vs →
   (∀ s', Q (.ref D) s' → P (.done (.ret .none)) s') → wpAny (model X.prog X.w) X.A.in1.in1 (ksk_rest D f b vs.toArray e1 (.ref kS)) P E s0) :
  wpAny (model X.prog X.w) X.A (call (.builtin "sorted") [.ref l] kw) Q E s := by
 obtain ⟨hz, vs, n, hv, hvl, e⟩ := I.lstM hl
 have hvl' : vs.length = xs.length := by omega
 refine call_function_entry_kw kind_sorted plain_sorted entry_sorted ha1 ?_
 unfold Builtin.«sorted»
 refine wpAny_bind (m := checkCount "sorted" 1 1 _) (wpAny_pure ?_)
 refine wpAny_bind (collect_list (vs := vs) ⟨_, e, rfl, n, rfl⟩ ?_ (by rw [sizeLine_eq]; omega))
 refine wpAny_bind (wpAny_newList ?_ (by rw [sizeLine_eq]; omega))
 have hsz : ((s.heap.push (seqObj "list" #[] 0)).update s.heap.objs.size (Obj.mapSeq (· ++ vs.toArray))).objs.size = s.heap.objs.size + 1 := by
  rw [Heap.size_update, size_push']
 have hoL : (((s.heap.push (seqObj "list" #[] 0)).update s.heap.objs.size (Obj.mapSeq (· ++ vs.toArray))).push (seqObj "list" vs.toArray 0)).get? (s.heap.objs.size + 1) = some (seqObj "list" vs.toArray 0) := by
  rw [← hsz]; exact Heap.get?_push_size _ rfl
 have keep : ∀ b o, s.heap.get? b = some o → (((s.heap.push (seqObj "list" #[] 0)).update s.heap.objs.size (Obj.mapSeq (· ++ vs.toArray))).push (seqObj "list" vs.toArray 0)).get? b = some o := fun b o q => by
  have hlt : b < s.heap.objs.size := Heap.lt_size q
  rw [Heap.get?_push_ne _ _ _ (by rw [hsz]; exact Nat.ne_of_lt (Nat.lt_succ_of_lt hlt)), Heap.get?_update_ne _ _ _ _ (Nat.ne_of_lt hlt), Heap.get?_push_ne _ _ _ (Nat.ne_of_lt hlt)]
  exact q
 have hsz3 : (((s.heap.push (seqObj "list" #[] 0)).update s.heap.objs.size (Obj.mapSeq (· ++ vs.toArray))).push (seqObj "list" vs.toArray 0)).objs.size = s.heap.objs.size + 2 := by rw [size_push', hsz]
 show wpAny _ _ _ _ _ { s with heap := ((s.heap.push (seqObj "list" #[] 0)).update s.heap.objs.size (Obj.mapSeq (· ++ vs.toArray))).push (seqObj "list" vs.toArray 0) }
 rw [hsz]
 generalize hh3 : ((s.heap.push (seqObj "list" #[] 0)).update s.heap.objs.size (Obj.mapSeq (· ++ vs.toArray))).push (seqObj "list" vs.toArray 0) = h3 at hoL keep hsz3 ⊢
 clear hh3 hsz
 refine wpAny_bind (wpAny_holding (wpAny_call_entry_kw slot_list_sort ⟨_, hoL, rfl⟩ entry_list_sort ?body (ha2 _)))
 case body =>
  have ht' := ht (s.heap.objs.size + 1)
  show wpAny (model X.prog X.w) X.A.in1.in1 (Builtin.«list.sort» ⟨[.ref (s.heap.objs.size + 1)], kw⟩) _ _ _
  rw [ht']
  generalize hD : s.heap.objs.size + 1 = D at hoL ⊢
  obtain ⟨e1, ho1⟩ : ∃ e1, (h3.update D (Obj.mapSeq fun _ => (#[] : Array Value))).get? D = some (seqObj "list" #[] e1) := ⟨_, get?_update_seq hoL fun _ => #[]⟩
  have s1 := Heap.SameBut.update h3 D (Obj.mapSeq fun _ => (#[] : Array Value))
  have hsz4 : (h3.update D (Obj.mapSeq fun _ => (#[] : Array Value))).objs.size = s.heap.objs.size + 2 := by rw [Heap.size_update, hsz3]
  have keep4 : ∀ b o, s.heap.get? b = some o → (h3.update D (Obj.mapSeq fun _ => (#[] : Array Value))).get? b = some o := fun b o q => (s1.2 b (Nat.ne_of_lt (hD ▸ Nat.lt_succ_of_lt (Heap.lt_size q)))).trans (keep b o q)
  unfold ksk_tree
  refine wpAny_bind (listItems_at hoL rfl ?_)
  refine wpAny_bind (listUpdate_at hoL rfl ?_ (by rw [List.size_toArray, sizeLine_eq]; omega) (Nat.zero_le _))
  refine wpAny_bind (seqEpoch_at ho1 rfl ?_)
  refine wpAny_bind (wpAny_newTuple ?_ (by show vs.length ≤ _; rw [sizeLine_eq]; omega))
  refine wpAny_bind (wpAny_newList ?_ (Nat.zero_le _))
  refine wpAny_holding ?_
  have hkS : ((h3.update D (Obj.mapSeq fun _ => (#[] : Array Value))).push (seqObj "tuple" vs.toArray 0)).objs.size = s.heap.objs.size + 3 := by rw [size_push', hsz4]
  have keep5 : ∀ b o, s.heap.get? b = some o → (((h3.update D (Obj.mapSeq fun _ => (#[] : Array Value))).push (seqObj "tuple" vs.toArray 0)).push (seqObj "list" #[] 0)).get? b = some o := fun b o q => Heap.get?_push_of_some _ (Heap.get?_push_of_some _ (keep4 b o q))
  have fD : Zdk X pins H D := I.fpOk (by omega) (I.hok.fresh (by omega))
  have fK : Zdk X pins H (s.heap.objs.size + 3) := I.fpOk (by omega) (I.hok.fresh (by omega))
  have I5 : Inv X (pins ++ [(s.heap.objs.size + 3, seqObj "list" #[] 0), (D, seqObj "list" #[] e1)]) σ H { s with heap := ((h3.update D (Obj.mapSeq fun _ => (#[] : Array Value))).push (seqObj "tuple" vs.toArray 0)).push (seqObj "list" #[] 0), toks := s.toks } := by
   refine (I.kept (t' := s.toks) keep5).pins_of fun p hp => ?_
   rcases List.mem_append.mp hp with hp | hp
   ·exact (I.kept (t' := s.toks) keep5).pin p (List.mem_append_right _ hp)
   ·rcases List.mem_cons.mp hp with rfl | hp
    ·exact ⟨by rw [← hkS]; exact Heap.get?_push_size _ rfl, fK.1, fK.2.1, fK.2.2.1, fun v z => by cases z⟩
    ·rw [List.mem_singleton.mp hp]
     exact ⟨Heap.get?_push_of_some _ (Heap.get?_push_of_some _ ho1), fD.1, fD.2.1, fD.2.2.1, fun v z => by cases z⟩
  show wpAny (model X.prog X.w) X.A.in1.in1 (ksk_rest D f b vs.toArray e1 (.ref ((h3.update D (Obj.mapSeq fun _ => (#[] : Array Value))).push (seqObj "tuple" vs.toArray 0)).objs.size)) _ E { s with heap := ((h3.update D (Obj.mapSeq fun _ => (#[] : Array Value))).push (seqObj "tuple" vs.toArray 0)).push (seqObj "list" #[] 0), toks := s.toks }
  rw [hkS]
  exact rest D _ e1 vs _ _ I5 fD.1 fD fK (fun z => absurd (hD.trans z.symm) (by omega)) hv fun s' hq => ⟨_, rfl, wpAny_pure ⟨_, rfl, hq⟩⟩
theorem sortK (I : Inv X pins σ H s) (hl : H l = some (.lst xs)) (hlen : ks.length = xs.length) (h64 : xs.length < 64)
  (ha1 : argsOk "sorted" ⟨[.ref l], kw⟩) (ha2 : ∀ x, argsOk "list.sort" ⟨[.ref x], kw⟩) (ht : ∀ x, Builtin.«list.sort» ⟨[.ref x], kw⟩ = ksk_tree x f b)
  (turn : ∀ (i : Nat) (x : V) (k : Int), xs[i]? = some x → ks[i]? = some k → ∀ (pins' : List (Addr × Obj)) (H' : Hp) (s' : Shared) (u : Value), Inv X pins' σ H' s' → Same H H' → RelV x u →
   wpAny (model X.prog X.w) X.A.in1.in1 (call f [u]) (fun v s'' => ∃ t H'', v = .int k t ∧ Inv X pins' σ H'' s'' ∧ Same H' H'') (fun _ _ => False) s')
  (h : ∀ (D : Addr) (H' : Hp) (s' : Shared) (ys : List V), H D = none → Inv X pins σ H' s' → Same H H' → H' D = some (.lst ys) → Zeb b ks xs ys → Q (.ref D) s') :
  wpAny (model X.prog X.w) X.A (call (.builtin "sorted") [.ref l] kw) Q E s := by
 refine Zhl I hl h64 ha1 ha2 ht fun D kS e1 vs s0 P I5 hD fD fK hDK hv hP => ?_
 exact ZlH I5 (fun _ _ q => q) hD fD fK hDK hv hlen h64 turn fun H' s' ys I' sH' e' hsk => hP _ (h D H' s' ys hD I' sH' e' hsk)
end
end My
namespace My
open PySem PySem.W PySem.Calls PyProof.Rows
structure KaOrd (lt : Nat → Nat → Bool) : Prop where
 refl : ∀ a, lt a a = false
 trans : ∀ a b c, lt b a = false → lt c b = false → lt c a = false
 asym : ∀ a b, lt a b = true → lt b a = false
section
variable {lt : Nat → Nat → Bool} {cmp : Nat → Nat → (Bool → Shared → Prop) → Shared → Prop} {I : Shared → Prop} {N : Nat}
def KaIn (N : Nat) (p : Array Nat) : Prop := p.Perm (List.range N).toArray
theorem KaIn.size {p : Array Nat} (h : KaIn N p) : p.size = N := by
 have := (Array.perm_iff_toList_perm.mp h).length_eq
 simpa using this
end
end My
namespace My
open PySem PySem.SeqAt PySem.MeetsSeq PySem.MeetsSeq2 PySem.MeetsSeq3 PyProof.Rows
open AutoSeq1 (wpAny_loadPart')
end My
namespace My
open PySem PySem.Spec L2
open PyProof.Rows hiding St
open PySem.W (kat_end kas_ask KatFin KasFin katRev)
section
variable {X : Cx} {pins : List (Addr × Obj)} {σ : St} {H : Hp} {s : Shared} {l : Addr} {xs : List V} {f : Value} {kw : List (Str × Value)} {E : Value → Shared → Prop} {Q : Value → Shared → Prop} {KeyIs : Nat → Hp → Value → Prop} {lt : Nat → Nat → Bool} {κ : SortKind}
end
end My
namespace My
open PySem PySem.Spec L2
open PyProof.Rows hiding St
open PySem.W (kat_lt kat_cons kat_nil kat_yes kat_no kat_one kat_kind KatTups KatLex KatGo)
structure Sto {α : Type} (r : α → α → Bool) : Prop where
 irr : ∀ a, r a a = false
 tr : ∀ a b c, r a b = true → r b c = true → r a c = true
 tri : ∀ a b, r a b = false → r b a = false → a = b
theorem Sto.asym {α : Type} {r : α → α → Bool} (h : Sto r) {a b : α} (e : r a b = true) : r b a = false := by
 cases q : r b a with
 | false => rfl
 | true => have := h.tr _ _ _ e q; rw [h.irr] at this; cases this
theorem Sto.ka {α : Type} {r : α → α → Bool} (h : Sto r) (f : Nat → α) : KaOrd fun i j => r (f i) (f j) where
 refl a := h.irr _
 trans a b c h1 h2 := by
  cases q : r (f c) (f a) with
  | false => rfl
  | true =>
   exfalso
   cases q2 : r (f b) (f c) with
   | true => have := h.tr _ _ _ q2 q; rw [h1] at this; cases this
   | false =>
    have e := h.tri _ _ q2 h2
    rw [e, q] at h1
    cases h1
 asym a b e := h.asym e
section
variable {X : Cx} {pins : List (Addr × Obj)} {σ : St} {H : Hp} {s : Shared} {E : Value → Shared → Prop}
end
end My
namespace My
open PySem PySem.Spec L2
open PyProof.Rows hiding St
def one1 (q : V → Hp → Prop) : List V → Hp → Prop
 | [v], H => q v H
 | _, _ => False
theorem one1_of {q : V → Hp → Prop} {vs : List V} {H : Hp} (h : one1 q vs H) : ∃ v, vs = [v] ∧ q v H := by
 match vs, h with
 | [v], h => exact ⟨v, rfl, h⟩
section
variable {X : Cx} {p pos kp : Pos} {e ek : Expr} {te tk : TE} {k : Nat}
end
end My
namespace My
open PySem PySem.Spec L2
open PyProof.Rows hiding St
section
variable {X : Cx} {j k : Nat} {x y : Str} {sp : Sp} {p : Pos}
theorem run_in {pins : List (Addr × Obj)} {σ : L2.St} {H : Hp} {s : Shared} {Q : VK} {us : List Value} {f : Addr} (I : Inv X pins σ H s) (h : codeAny (model X.prog X.w) X.A.in1.in1 (.call (.ref f) ⟨us, []⟩) (CR CX0 X.stack X.prog X.w H s Q E0) s) :
  wpAny (model X.prog X.w) X.A.in1.in1 (call (.ref f) us) (EP X pins σ Q) (fun _ _ => False) s := by
 refine wpAny_call (codeAny_mono h fun r s' hq => ?_)
 cases r with
 | error e => exact hq
 | ok fl =>
  cases fl with
  | ret u => exact I.after hq
  | next => exact False.elim hq
  | brk => exact False.elim hq
  | cont => exact False.elim hq
theorem okQc {P : Program} {w : World} {K : PySem.W.Frag} {mg : Str → Option Value} {base : Heap} {x qual : Str} {st : Stmt} {f c : Addr} {fd : FuncData} {N ps : List Str} {k : Nat} {sp : Sp} (F : Fun K x qual st f fd) (hc : fd.code = .ref c) (S : FnScope N ps (Zaa st)) (len : ∀ vs H Q E, sp vs H Q E → vs.length = ps.length)
  (hbody : ∀ (A : Around) (outer : List Env) (s : Shared) (H : Hp) (vs : List V) (Q : VK) (E : XK), Room k (A.deeper (envOfC qual (Zaa st) s.heap.objs.size f (.ref c))) → sp vs H Q E →
   ∃ t, QB (Zh3 CX0 P w K mg base N qual (Zaa st) f (.ref c) A outer s H E).nox (Zaf st) t ∧ t { nx := fun _ H' => Q .non H', rt := Q } (Zav N vs) H) : FnOk P w K mg base CX0 (k + 1) f fd ps sp := by
 obtain ⟨oc, od, kV, doc, pm, an, cdv, ct, osl, rfl, lk, hcd⟩ := F.ex
 have hc : cdv = .ref c := hc
 subst hc
 refine fn_of lk hcd S len fun A outer s H vs Q E hr hsp => ?_
 obtain ⟨t, h, q⟩ := hbody A outer s H vs Q E hr hsp
 exact ⟨t, h.h.nox, q⟩
end
end My
namespace L2
open PySem PySem.Spec PyProof.Rows PySem.W
theorem ZiS {l : PySem.W.OpenLaw} {n k : Nat} {q : Program} {loose : List Str} {XP : (Str → Option Value) → Heap → Prop} {YP : World → Heap → Prop} {d : DefRec} {K : Params → PySem.W.Frag} {CX : CXT} {sp : PySem.W.Frag → Sp} {x : Str} (T : Addr → Option Str)
  (hn : l.most = some n) (hn2 : n ≤ sizeLine) (hdf : d.params.defaults = []) (hr : Room k callerA)
  (hY : ∀ (w : World) (h : Heap), YP w h → (K w.params).In h)
  (hT : ∀ (w : World) (h : Heap), YP w h → ∀ b q, T b = some q → (∃ c, CodeHd h c b) ∧ h.get? b = some (tabObj #[])) (hKT : ∀ (w : World) b q, T b = some q → (K w.params).lookup b = none)
  (F : ∀ (w : World) (mg : Str → Option Value) (fa : Addr) (h : Heap), (K w.params).In h → h.Ns mainGlobals mg → mg d.name = some (.ref fa) →
   ∃ fd : FuncData, (∀ (s : Shared) (u : Value), BindsTo s fd ⟨[u], []⟩ [(x, u)]) ∧
    ∀ base : Heap, (K w.params).In base → base.Ns mainGlobals mg → ZdF mg base → FnOk l.prog w (K w.params) mg base CX k fa fd [x] (sp (K w.params)))
  (hsp : ∀ (K : PySem.W.Frag) (H : Hp) (a : Addr) (ns : List Int), ns.length ≤ n → (∀ b q, T b = some q → ZfX H b q) → SqL K H a (ns.map V.int) → sp K [.ref a] H (fun v _ => v = .bl true) fun _ _ _ => False)
  (hCX : ∀ (H : Hp) (s : Shared) (e : Value) (s' : Shared), CX [] H s (fun _ _ _ => False) e s' → False) :
  PySem.W.WalkO q loose XP YP l.row.toRowW d [] (fun f vs => PySem.call f vs) := by
 refine Att.attach_call hn hdf fun w s₀ s₁ mg mb fa o pm cd doc a vs ns G Y ho hd hcd hmg hobj hints hlen hg => ?_
 have KX := hY w _ Y
 obtain ⟨fd, hb, hF⟩ := F w mg fa _ KX G.T.g hmg
 exact Ziv (T := T) KX G.T.g G.T.b G.T.builtins G.T.nolimit hg hobj hints (Nat.le_trans hlen hn2) hr (hT w _ Y) (hKT w) (by obtain ⟨bm, o, b1, b2, b3, b4, b5, b6⟩ := G.T.bmain; exact ⟨bm, o, b1, b2, b3, b4, b5, b6⟩) hF hb (fun H hO hS => hsp (K w.params) H a ns hlen hO hS) fun H e s' => hCX H s₁ e s'
end L2
namespace My
open PySem PySem.Spec L2
open PyProof.Rows hiding St
instance (a b : Str) : Decidable (leS a b) := inferInstanceAs (Decidable (a.cps.toList ≤ b.cps.toList))
end My
namespace My
open PySem PySem.Spec L2
open PyProof.Rows hiding St
def KeyFnW (X : Cx) (σ : L2.St) (H : Hp) (ky : V → Int) (xs : List V) (fv : V) : Prop := ∃ f, fv = .ref f ∧ ∀ (pins : List (Addr × Obj)) (H' : Hp) (s' : Shared) (x : V) (u : Value), x ∈ xs → Inv X pins σ H' s' → Same H H' → RelV x u →
 wpAny (model X.prog X.w) X.A.in1.in1 (call (.ref f) [u]) (fun v s'' => ∃ t H'', v = .int (ky x) t ∧ Inv X pins σ H'' s'' ∧ Same H' H'') (fun _ _ => False) s'
def swEnd (X : Cx) (σ : L2.St) (Q : VK) (v : V) : V → Hp → Prop := fun fv H2 => ∃ a xs ky, v = .ref a ∧ H2 a = some (.lst xs) ∧ xs.length < 64 ∧ KeyFnW X σ H2 ky xs fv ∧ ∀ D H3 ys, H2 D = none → Same H2 H3 → H3 D = some (.lst ys) → Zeb true (xs.map ky) xs ys → Q (.ref D) H3
def tSortW (X : Cx) (te tk : TE) : TE := fun σ H Q => te σ H fun v H1 => tk σ H1 (swEnd X σ Q v)
def two2 (q : V → Hp → Prop) : List V → Hp → Prop
 | [v, .bl true], H => q v H
 | _, _ => False
theorem two2_of {q : V → Hp → Prop} {vs : List V} {H : Hp} (h : two2 q vs H) : ∃ v, vs = [v, .bl true] ∧ q v H := by
 match vs, h with
 | [v, .bl true], h => exact ⟨v, rfl, h⟩
section
variable {X : Cx} {p pos kp kp2 : Pos} {e ek eb : Expr} {te tk : TE}
theorem Zld (hg : Gl X "sorted") (hm : X.mg "sorted" = none) (ha : PE X e te) (hk : PE X ek tk) (hb : PE X eb (tC (.bl true))) (hs : starEach [e] X.env = [(false, eval e X.env)] := by rfl)
  (hks : (backToKw pos (keywordEach [⟨some "key", ek, kp⟩, ⟨some "reverse", eb, kp2⟩] X.env)).filterMap (·.1) = [Str.ofString "key", Str.ofString "reverse"] := by rfl) :
  PE X (.Call (.Name "sorted" p) [e] [⟨some "key", ek, kp⟩, ⟨some "reverse", eb, kp2⟩] pos) (tSortW X te tk) := by
 intro pins s σ H Q I h
 refine wpAny_Call_Name_kw (ZbO I hg hm (show bootBuiltins "sorted" = some (.builtin "sorted") from rfl) ?_ (by decide) (by decide))
 refine callWith_kw ?_ (by rw [hs]; rfl) (by rw [hs]; rfl)
 refine thn (ZjH ha pa_nil hs pos pins s σ H (one1 fun v H1 => tk σ H1 (swEnd X σ Q v)) I h) ?_
 rintro us s1 ⟨vs, H1, I1, r1, q⟩
 obtain ⟨v, rfl, q⟩ := one1_of q
 refine thn (Zh5 (kws := [⟨some "reverse", eb, kp2⟩]) hk (Zh5 hb pk_nil) pos pins s1 σ H1 (two2 (swEnd X σ Q v)) I1 q) ?_
 rintro ws s2 ⟨zs, H2, I2, r2, q2⟩
 obtain ⟨fv, rfl, q2⟩ := two2_of q2
 obtain ⟨a, xs, ky, rfl, hl, h64, ⟨f, rfl, hf⟩, q3⟩ := q2
 cases r1 with
 | cons r1 r1' =>
  cases r1'
  cases r1
  cases r2 with
  | cons r2 r2' =>
   cases r2' with
   | cons r3 r3' =>
    cases r3'
    cases r2
    cases r3
    rw [hks]
    refine sortK (b := true) (f := .ref f) (ks := xs.map ky) I2 hl (List.length_map ..) h64 (ksk_s2 _ _ _) (fun x => ksk_l2 _ _ _) (fun x => ksk_t2 _ _ _) (fun i x k hx hki pins' H' s' u I' sm r => ?_) fun D H' s' ys hD I' sm e' hs => ⟨.ref D, H', I', rfl, q3 D H' ys hD sm e' hs⟩
    rw [List.getElem?_map, hx] at hki
    cases hki
    exact hf pins' H' s' x u (List.mem_of_getElem? hx) I' sm r
def ZkB (X : Cx) (P : Addr) (q : Str) (i : Nat) (t : TE) : TE := fun σ H Q => ZfX H P q ∧ ∃ w, σ[i]? = some (some w) ∧ ∀ fv H2, Same H H2 → (∀ (xs : List V) (ky : V → Int), (∀ x ∈ xs, ∀ (H' : Hp) (k : VK), Same H2 H' → (∀ H'', Same H' H'' → k (.int (ky x)) H'') → t [some x, some w] H' k) → KeyFnW X σ H2 ky xs fv) → Q fv H2
theorem Zh2 {params : Arguments} {body : Expr} {scope : Scope} {c P cz : Addr} {q y z : Str} {t : TE} {i k : Nat} (hdef : defaultsOf params X.env = ([], [])) (hcl : closureFor scope X.env = pure [(z, cz)]) (hcz : X.env.cells.lookup z = some cz) (hcode : X.env.code = .ref c)
  (hC : PySem.W.codeHdIn X.K c P = true) (hB : ZdF X.mg X.base) (hq : X.env.qual ++ "<lambda>" = q) (hr : Room (k + 3) X.A) (S : LamScope [y] [z] scope [(z, cz)]) (hN : X.N[i]? = some z) (hv : Vis X.env.scope z) (hloc : X.env.scope.names.lookup z ≠ some .local)
  (hbind : ∀ (pm ctv u : Value) (c' : Addr), bindArgs (PySem.W.kla_fn "<lambda>" q params body scope [(z, cz)] pm (.ref c') ctv) ⟨[u], []⟩ = pure [(y, u)])
  (hbody : ∀ (f c' : Addr) (s : Shared) (H : Hp), QE (Zku CX0 X.prog X.w X.K X.mg X.base [y, z] q scope f c' [(z, cz)] X.A.in1.in1 X.stack s H E0) body t) :
  PE X (.Lambda params body scope pos) (ZkB X P q i t) := by
 intro pins s σ H Q I ⟨⟨tk, hP⟩, w, hw, h⟩
 have hb : X.base.BuiltinsAt X.mg P := by
  obtain ⟨bm, o, b1, b2, b3, b4, b5, b6⟩ := hB
  refine ⟨bm, o, b1, b2, fun z => ?_, fun z => ?_, b3, b4, b5, b6⟩
  ·obtain ⟨o', es, ep, e, d, _⟩ := I.ok.mod.glob
   rw [z, e] at b3
   cases b3
   rw [d] at b6
   cases b6
  ·have := (I.bs _ _ b3).2
   rw [z, hP] at this
   cases this
 refine pe_lam hdef hcl hcode (PySem.W.codeHd_of_K I.ok.mod.kin hC) hb hq pins s σ H Q I ⟨tk, hP, fun f c' oc pm ctv vs t' H2 hf hf2 hc2 hd hv' sm => h _ H2 sm fun xs ky hx => ⟨f, rfl, fun pins' H' s' x u hxm I' sm' r => ?_⟩⟩
 have ho := (I'.hok f _ (sm' _ _ hf2)).1
 have hoc := (I'.hok c' _ (sm' _ _ hc2)).1
 refine thn (run_in (Q := fun v H'' => v = .int (ky x) ∧ Same H' H'') I' (lam_of (k := k) (ps := [y]) (fs := [z]) (ws := [w]) (vs := [x]) (us := [u]) hr.in1.in1 ?_ ho ⟨c', oc, vs, t', rfl, hoc, hd, hv'⟩ (hbind _ _ _ _) rfl (.cons r .nil) S ?_ (hbody f c' s' H').h (hx x hxm H' _ sm' fun H'' sm2 => ⟨rfl, sm2⟩))) ?_
 ·exact ⟨I'.ok.frames, I'.ok.mod, I'.bs, Nat.le_trans I'.ok.bsz I'.sz, I'.stack, I'.stkFree, I'.hok, I'.bare⟩
 ·have hcell : ∀ x c0, List.lookup x [(z, cz)] = some c0 → x = z ∧ c0 = cz := fun x c0 e => by
   simp only [List.lookup] at e
   split at e
   ·rename_i hh
    cases e
    exact ⟨by simpa using hh, rfl⟩
   ·cases e
  refine ⟨rfl, fun j x v e1 e2 => ?_, fun x c0 e => ?_, fun x x' c0 e e' => by rw [(hcell _ _ e).1, (hcell _ _ e').1]⟩
  ·match j with
   | 0 =>
    cases e1
    cases e2
    obtain ⟨m, _, hl⟩ := I'.loc
    obtain ⟨u', ru, lk⟩ := hl i z w hN hw hv
    rcases lk with ⟨hl', _⟩ | ⟨_, c0, hc0, hce⟩
    ·exact absurd hl' hloc
    ·have : c0 = cz := Option.some.inj (hc0.symm.trans hcz)
     subst this
     exact ⟨c0, u', by simp, ru, hce⟩
   | j + 1 => cases e1
  ·obtain ⟨rfl, rfl⟩ := hcell x c0 e
   exact ⟨I'.cell _ _ hcz, I'.freeC _ _ hcz⟩
 ·rintro v s'' ⟨w', H'', I'', r'', rfl, sm2⟩
  obtain ⟨t2, rfl⟩ := r''
  exact ⟨t2, H'', rfl, I'', sm2⟩
theorem q_sortW (hg : Gl X "sorted") (hm : X.mg "sorted" = none) (ha : QE X e te) (hk : QE X ek tk) (hb : QE X eb (tC (.bl true))) (hp : Zao e = true := by rfl) : QE X (.Call (.Name "sorted" p) [e] [⟨some "key", ek, kp⟩, ⟨some "reverse", eb, kp2⟩] pos) (tSortW X te tk) :=
 ⟨Zld hg hm ha.h hk.h hb.h (Zak hp) rfl⟩
end
end My
namespace My
open PySem PySem.Spec L2
open PyProof.Rows hiding St
section
variable {prog : Program} {w : World} {A : Around} {E : Value → Shared → Prop} {s : Shared} {κ : Type} [DecidableEq κ] {knd : KeyKind prog w κ}
end
section
variable {prog : Program} {w : World} {A : Around} {E : Value → Shared → Prop} {s : Shared}
end
section
variable {X : Cx} {l m : Expr} {ta : TA} {p pos pos' : Pos} {es : List Expr}
end
end My
namespace My
open PySem PySem.Spec L2
open PyProof.Rows hiding St
section
variable {prog : Program} {w : World} {A : Around} {E : Value → Shared → Prop} {s : Shared} {κ : Type} [DecidableEq κ] {knd : KeyKind prog w κ}
theorem ZkO (mask finger moves : Nat) (led plain : Bool) : SetTable.laid mask finger moves led plain #[] = some ({ mask, place := #[], dummies := #[], finger, led, moves, plain }, #[]) := by
 unfold SetTable.laid SetTable.layClean
 simp
 intro j hj
 simp [hj]
theorem ZkU : ∀ m < 65, SetTable.sizeAbove m ≤ 128 := by decide +kernel
theorem sd_room {a : Addr} {o : Obj} {ep : Nat} {t : SetTable} {n : Nat} {Q : Unit → Shared → Prop} (ho : s.heap.get? a = some o) (hex : o.ExactSet) (hd : o.data = .set #[] ep t) (hf : t.fits 0 = true) (hp : t.place = #[]) (hn : n ≤ 30)
  (q : ∀ h', Heap.SameBut a s.heap h' → h'.SetOf knd a (fun _ => false) 0 → Q () { s with heap := h' }) : wpAny (model prog w) A (setRoomFor a n) Q E s := by
 have h0 : s.heap.SetOf knd a (fun _ => false) 0 := ⟨o, #[], ep, t, ho, hex, hd, fun e he => by simp at he, fun k => by simp, by decide, hf, rfl⟩
 unfold setRoomFor
 refine wpAny_bind (wpAny_setState_of ho hd hf ?_)
 dsimp only
 cases hr : t.roomFor n with
 | none => exact wpAny_pure (q s.heap (Heap.SameBut.refl a s.heap) h0)
 | some wanted =>
  have hw : wanted < 65 := by
   unfold SetTable.roomFor at hr
   split at hr
   ·cases hr
    rw [hp]
    show (0 + n) * 2 < 65
    omega
   ·cases hr
  have hsz := ZkU wanted hw
  unfold setRelay
  refine wpAny_bind (wpAny_setState_of ho hd hf ?_)
  dsimp only
  rw [if_neg (by rw [sizeLine_eq]; omega)]
  have er : t.relaid (Array.map (fun x : Int × Value => x.1) #[]) wanted = some ({ mask := SetTable.sizeAbove wanted - 1, place := #[], dummies := #[], finger := t.finger, led := t.led, moves := t.movedTo (SetTable.sizeAbove wanted - 1), plain := t.plain }, #[]) := by
   unfold SetTable.relaid
   rw [Array.map_empty]
   exact ZkO _ _ _ _ _
  rw [er]
  refine wpAny_bind (wpAny_of_eq (a := ((#[] : Array (Int × Value)), ({ mask := SetTable.sizeAbove wanted - 1, place := #[], dummies := #[], finger := t.finger, led := t.led, moves := t.movedTo (SetTable.sizeAbove wanted - 1), plain := t.plain } : SetTable))) rfl ?_)
  dsimp only
  refine wpAny_storeSet_of ho hd (q _ (Heap.SameBut.update _ _ _) ?_) (by simp)
  exact (SetOf_store (knd := knd) ho hex hd (es' := #[]) (fun e he => by simp at he) (fun k => by simp) (by decide) (by simp [SetTable.fits, SetTable.fill])).2
theorem sd_loop {d S : Addr} {es : Array DictEntry} {ep : Nat} {od : Obj} {kvs : List (κ × Value)} {nm : String} {Q : Unit → Shared → Prop} (hne : d ≠ S) (hod : s.heap.get? d = some od) (hdd : od.data = .dict es ep) (hko : KeysOf knd es) (hpo : Pairs knd es.toList kvs) (hno : (kvs.map (·.1)).Nodup)
    (hsc : ∀ e ∈ es.toList, e.key.scannable = true) (hn : kvs.length ≤ 30) (h0 : s.heap.SetOf knd S (fun _ => false) 0) (q : ∀ h', Heap.SameBut S s.heap h' → h'.SetOf knd S (fun k => decide (k ∈ kvs.map (·.1))) kvs.length → Q () { s with heap := h' }) :
    wpAny (model prog w) A (do
          let __do_lift ← dictEntries d
          forIn [:__do_lift.size] PUnit.unit fun i __s => do
              let __do_lift ← dictEntries d
              match __do_lift[i]? with
                | some e => do
                  let _ ← holding [e.key] (setAddHashed S e.key e.hash)
                  let __do_lift ← dictEpoch d
                  if (__do_lift != ep) = true then do
                      unsupported nm
                      pure (ForInStep.yield PUnit.unit)
                    else pure (ForInStep.yield PUnit.unit)
                | x => do
                  unsupported "internal:set-from-dict"
                  pure (ForInStep.yield PUnit.unit)
          pure ()) Q E s := by
  have hlen : kvs.length = es.size := by rw [← hpo.length]; simp
  refine wpAny_bind (wpAny_dictEntries hod hdd (wpAny_bind ?_))
  rw [Std.Legacy.Range.forIn_eq_forIn_range']
  simp only [Std.Legacy.Range.size, Nat.sub_zero, Nat.add_sub_cancel, Nat.div_one]
  refine wpAny_forIn_list _ (fun rest _ s' => ∃ h' i, s' = { s with heap := h' } ∧ rest = List.range' i (es.size - i) ∧ i ≤ es.size ∧ h'.SetOf knd S (fun k => decide (k ∈ (kvs.take i).map (·.1))) i ∧ h'.get? d = some od ∧ Heap.SameBut S s.heap h') _ ?_ ?_ _ _
    ⟨s.heap, 0, rfl, by simp, Nat.zero_le _, by simpa using h0, hod, Heap.SameBut.refl _ _⟩
  · rintro x rest b s' ⟨h', i, rfl, hr, hi, hS, hod', sb⟩
    have hlt : i < es.size := Nat.lt_of_le_of_ne hi fun z => by rw [z, Nat.sub_self] at hr; cases hr
    obtain ⟨rfl, hrest⟩ : x = i ∧ rest = List.range' (i + 1) (es.size - (i + 1)) := by
      rw [show es.size - i = (es.size - (i + 1)) + 1 by omega, List.range'_succ] at hr
      injection hr with a1 a2
      exact ⟨a1, a2⟩
    refine wpAny_bind (wpAny_dictEntries hod' hdd ?_)
    rw [Array.getElem?_eq_getElem hlt]
    have hltk : x < kvs.length := by omega
    have hkv := List.getElem?_eq_getElem hltk
    obtain ⟨hkey, _⟩ := hpo.get? (e := es[x]) (k := kvs[x].1) (v := kvs[x].2) (by simp [hlt]) hkv
    obtain ⟨k', hk', hh⟩ := hko es[x] (Array.getElem_mem hlt)
    obtain rfl : k' = kvs[x].1 := knd.inj _ _ _ hk' hkey
    have hnew : kvs[x].1 ∉ (kvs.take x).map (·.1) := fun hm => by
      have h1 : ((kvs.take (x + 1)).map (·.1)).Nodup := hno.sublist ((List.take_sublist _ _).map _)
      rw [List.take_add_one, hkv, List.map_append] at h1
      exact (List.nodup_append.mp h1).2.2 _ hm _ (by simp) rfl
    show wpAny _ _ (holding [es[x].key] (setAddHashed S es[x].key es[x].hash) >>= fun _ => _) _ _ _
    rw [hh]
    refine wpAny_bind (wpAny_holding (wpAny_setAddHashed_of hkey (hsc _ (by simp)) hS (by have : scanBound = 4096 := rfl; omega) fun h2 sb2 hS2 => ?_))
    have hod2 : h2.get? d = some od := (sb2.2 d hne).trans hod'
    refine wpAny_bind (wpAny_dictEpoch hod2 hdd ?_)
    rw [if_neg (by simp)]
    refine wpAny_pure ⟨h2, x + 1, rfl, hrest, hlt, ?_, hod2, sb.trans sb2⟩
    simp only [hnew, decide_false, if_false, Bool.false_eq_true] at hS2
    rw [List.take_add_one, hkv]
    have e : (fun k' => decide (k' ∈ (kvs.take x ++ (some kvs[x]).toList).map (·.1))) = fun k' => (decide (k' ∈ (kvs.take x).map (·.1)) || decide (k' = kvs[x].1)) := by
      funext k'
      rw [List.map_append, Bool.eq_iff_iff]
      simp only [Option.toList_some, List.map_cons, List.map_nil, List.mem_append, List.mem_singleton, Bool.or_eq_true, decide_eq_true_eq]
    rw [e]
    exact hS2
  · rintro b s' ⟨h', i, rfl, hr, hi, hS, hod', sb⟩
    have hin : i = es.size := Nat.le_antisymm hi (Nat.le_of_not_lt fun c => by rw [show es.size - i = (es.size - (i + 1)) + 1 by omega, List.range'_succ] at hr; cases hr)
    rw [hin, ← hlen, List.take_length] at hS
    exact wpAny_pure (q h' sb hS)
set_option maxHeartbeats 3200000 in
theorem ZfY {d : Addr} {kvs : List (κ × Value)} {Q : Value → Shared → Prop} (hd0 : (d == sysModules) = false) (hm : s.heap.DictOf knd d kvs) (hsc : ∀ k u, knd.is k u = true → u.scannable = true) (hn : kvs.length ≤ 30)
  (h : ∀ (h' : Heap), h'.SetOf knd s.heap.objs.size (fun k => decide (k ∈ kvs.map (·.1))) kvs.length → (∀ b o, s.heap.get? b = some o → h'.get? b = some o) → Q (.ref s.heap.objs.size) { s with heap := h' }) :
  wpAny (model prog w) A (call (.type "set") [.ref d]) Q E s := by
 obtain ⟨c, tl, hmro⟩ := F.called_set.mro
 have hmade := F.called_set.made
 have hsub := F.called_set.sub
 refine wpAny_call (codeAny_of_tree ?_)
 show wpAny _ _ (callAny (.type "set") _) _ _ _
 refine wpAny_pure ⟨Code.quiet_builtin _ (by decide +kernel), codeAny_builtin F.entry_type_call ?_⟩
 rw [Around.under_plain (weight_type_call_type "set" [.ref d] []) rfl]
 have h1 := F.called_set.notType
 have h2 := F.called_set.canCreate
 have hct := F.typeCall_set_1 (.ref d)
 repeat (any_goals (first | assumption | wp_step))
 refine codeAny_mono (ZjB (.ref d) (E := E) (Q₁ := fun obj s₁ => obj = .ref s.heap.objs.size ∧ s₁ = { s with heap := s.heap.push (ZaM w) }) ⟨rfl, rfl⟩) fun r s₁ hr => ?_
 cases r with
 | error e => exact hr
 | ok fl =>
  cases fl with
  | ret obj =>
   obtain ⟨rfl, rfl⟩ := hr
   have hS : (s.heap.push (ZaM w)).get? s.heap.objs.size = some (ZaM w) := Heap.get?_push_size _ rfl
   have hT : Shared.TypeIs { s with heap := s.heap.push (ZaM w) } (.ref s.heap.objs.size) "set" := ⟨_, hS, rfl⟩
   have hli := F.called_set.init.lookup
   have hbi := F.called_set.init.bind (.ref s.heap.objs.size)
   repeat (any_goals (first | assumption | wp_step))
   refine codeAny_mono (codeAny_call_builtin (R := wants (fun r s₂ => r = .none ∧ ∃ h', s₂ = { s with heap := h' } ∧ h'.SetOf knd s.heap.objs.size (fun k => decide (k ∈ kvs.map (·.1))) kvs.length ∧ (∀ b o, s.heap.get? b = some o → h'.get? b = some o)) E)
    F.called_set.init.plain F.entry_set_init (check_set_init_1 hT ?_)) fun r₂ s₂ hr₂ => ?_
   ·obtain ⟨od, es, ep, hod, ⟨hcl, hdc, hsl⟩, hdd, hko, hpo, hno⟩ := hm
    obtain ⟨ocls, odict, odata, oslots⟩ := od
    simp only at hcl hdc hsl hdd
    subst hcl hdc hsl hdd
    have hod' : (s.heap.push (ZaM w)).get? d = some { cls := .type "dict", dict := none, data := .dict es ep, slots := #[] } := Heap.get?_push_of_some _ hod
    have hsls := F.sub_dict_set
    have hslf := F.sub_dict_frozenset
    have hdS : d < s.heap.objs.size := Heap.lt_size hod
    unfold Builtin.«set.__init__» noKeywords Builtin.Frozenset.updateFrom
    generalize hPI : setRoomFor = PI
    wp_walk
    subst hPI
    have hlen : kvs.length = es.size := by rw [← hpo.length]; simp
    refine sd_room (knd := knd) hS ⟨rfl, rfl, rfl⟩ rfl (by rfl) rfl (by omega) fun h3 sb3 hS3 => ?_
    have hne : d ≠ s.heap.objs.size := Nat.ne_of_lt hdS
    refine sd_loop (s := { s with heap := h3 }) hne ((sb3.2 d hne).trans hod') rfl hko hpo hno (fun e he => ?_) hn hS3 fun h4 sb4 hS4 => ?_
    ·obtain ⟨k, hk, _⟩ := hko e (by simpa using he)
     exact hsc k _ hk
    ·refine wpAny_pure ⟨rfl, h4, rfl, hS4, fun b o e => ?_⟩
     have hb : b ≠ s.heap.objs.size := Nat.ne_of_lt (Heap.lt_size e)
     exact (sb4.2 b hb).trans ((sb3.2 b hb).trans (Heap.get?_push_of_some _ e))
   ·cases r₂ with
    | error e => exact hr₂
    | ok fl₂ =>
     cases fl₂ with
     | ret r =>
      obtain ⟨rfl, h', rfl, hS', hk'⟩ := hr₂
      repeat (any_goals (first | assumption | wp_step))
      exact h _ hS' hk'
     | _ => exact hr₂.elim
  | _ => exact hr.elim
end
end My
namespace My
open PySem PySem.Spec L2
open PyProof.Rows hiding St
theorem Zfo : entryFor table "set.__ne__" = some Builtin.«frozenset.__ne__» :=
 entryFor_alias (id' := "frozenset.__ne__") (by kernel_rfl) (by first | rfl | decide +kernel | (unfold String.splitOn; simp +decide [String.splitOnAux])) (by decide +kernel) (by kernel_rfl)
section
variable {prog : Program} {w : World} {A : Around} {E : Value → Shared → Prop} {s : Shared} {κ : Type} [DecidableEq κ] {knd : KeyKind prog w κ}
theorem Zdf {d : Addr} {kvs : List (κ × Value)} {Q : Value → Shared → Prop} (hd0 : (d == sysModules) = false) (hm : s.heap.DictOf knd d kvs) (hsc : ∀ k u, knd.is k u = true → u.scannable = true) (hn : kvs.length ≤ 30)
  (h : ∀ (h' : Heap) (S : κ → Bool), (∀ k, S k = true ↔ k ∈ kvs.map (·.1)) → h'.SetOf knd s.heap.objs.size S kvs.length → (∀ b o, s.heap.get? b = some o → h'.get? b = some o) → Q (.ref s.heap.objs.size) { s with heap := h' }) :
  wpAny (model prog w) A (call (.type "set") [.ref d]) Q E s := ZfY hd0 hm hsc hn fun h' hS hk => h h' _ (fun k => by simp) hS hk
theorem Zkx {x : Value} (h : x.scannable = true) : Builtin.Frozenset.quietEq x = pure true := by
 cases x <;> first | rfl | (simp [Value.scannable] at h)
theorem ZfV : isSubtype (.type "set") (.type "frozenset") = pure false := by rw [isSubtype_type]; kernel_rfl
theorem Zf5 {a b : Addr} {oa ob : Obj} {es es' : Array (Int × Value)} {ep ep' : Nat} {t t' : SetTable} {Q : List (Int × Value) → Shared → Prop} (hoa : s.heap.get? a = some oa) (hda : oa.data = .set es ep t) (hf : t.fits es.size = true) (hel : ElemsOf knd es.toList)
  (hob : s.heap.get? b = some ob) (hdb : ob.data = .set es' ep' t') (hf' : t'.fits es'.size = true) (hel' : ElemsOf knd es'.toList) (q : Q es.toList s) : wpAny (model prog w) A (Builtin.Frozenset.walkUnseen a b) Q E s := by
 unfold Builtin.Frozenset.walkUnseen
 refine wpAny_bind (wpAny_setEntries_of hoa hda hf (wpAny_bind (wpAny_setEntries_of hob hdb hf' (wpAny_bind ?_))))
 refine wpAny_forIn_list _ (fun rest q' s' => s' = s ∧ q' = (none, ()) ∧ ∀ e ∈ rest, e.2.scannable = true) _ ?_ ?_ _ _ ⟨rfl, rfl, fun e he => ?_⟩
 ·intro e rest q' s' h
  obtain ⟨rfl, rfl, hs⟩ := h
  obtain ⟨hh, x⟩ := e
  show wpAny _ _ (Builtin.Frozenset.quietEq x >>= fun _ => _) _ _ _
  exact wpAny_bind (wpAny_of_eq (Zkx (hs _ (.head _))) (wpAny_pure ⟨rfl, rfl, fun e he => hs e (.tail _ he)⟩))
 ·rintro q' s' ⟨rfl, rfl, _⟩
  exact wpAny_pure q
 ·rcases List.mem_append.mp he with h | h
  ·exact (hel e h).2
  ·exact (hel' e h).2
theorem ZjL {a b : Addr} {S S' : κ → Bool} {n m : Nat} {nm : String} {Q : Bool → Shared → Prop} (ha : s.heap.SetOf knd a S n) (hb : s.heap.SetOf knd b S' m) (hnm : n ≤ m)
  (q : ∀ r : Bool, (r = true ↔ ∀ k, S k = true → S' k = true) → Q r s) : wpAny (model prog w) A (Builtin.Frozenset.subsetOf nm a b) Q E s := by
 obtain ⟨oa, es, ep, t, hoa, _, hda, hel, hmem, hz, hf, hn⟩ := id ha
 obtain ⟨ob, es', ep', t', hob, _, hdb, hel', hmem', hz', hf', hn'⟩ := id hb
 unfold Builtin.Frozenset.subsetOf Builtin.Frozenset.sizeOf
 refine wpAny_bind (wpAny_bind (wpAny_setEntries_of hoa hda hf (wpAny_pure (wpAny_bind (wpAny_bind (wpAny_setEntries_of hob hdb hf' (wpAny_pure ?_)))))))
 rw [if_neg (by omega)]
 refine wpAny_bind (wpAny_setEpoch_of hoa hda hf (wpAny_bind (Zf5 hoa hda hf hel hob hdb hf' hel' (wpAny_bind ?_))))
 refine wpAny_forIn_list _ (fun rest q' s' => s' = s ∧ q' = (none, ()) ∧ ∃ pre, es.toList = pre ++ rest ∧ ∀ e ∈ pre, ∃ k, knd.is k e.2 = true ∧ S' k = true) _ ?_ ?_ _ _ ⟨rfl, rfl, [], rfl, fun e he => by cases he⟩
 ·rintro ⟨hh, x⟩ rest q' s' ⟨rfl, rfl, pre, hpre, hin⟩
  have hx : (hh, x) ∈ es.toList := by rw [hpre]; simp
  obtain ⟨⟨k, hk, ehh⟩, hsc⟩ := hel _ hx
  dsimp only at hk ehh hsc ⊢
  rw [ehh]
  refine wpAny_bind (wpAny_holding (wpAny_setFind_of hk hsc hb fun r hr => ?_))
  cases r with
  | none =>
   have hS' : S' k = false := by rw [← hr]; rfl
   dsimp only [Option.isNone]
   rw [if_pos rfl]
   refine wpAny_pure (wpAny_pure (q false ⟨(fun z => by cases z), fun z => ?_⟩))
   have := z k ((hmem k).mpr ⟨_, hx, hk⟩)
   rw [hS'] at this
   cases this
  | some j =>
   have hS' : S' k = true := by rw [← hr]; rfl
   dsimp only [Option.isNone]
   rw [if_neg (by decide)]
   unfold Builtin.Frozenset.unchanged
   refine wpAny_bind (wpAny_bind (wpAny_setEpoch_of hoa hda hf ?_))
   rw [if_neg (by simp)]
   refine wpAny_pure (wpAny_pure ⟨rfl, rfl, pre ++ [(hh, x)], by rw [hpre]; simp, fun e he => ?_⟩)
   rcases List.mem_append.mp he with h | h
   ·exact hin e h
   ·rw [List.mem_singleton.mp h]; exact ⟨k, hk, hS'⟩
 ·rintro q' s' ⟨rfl, rfl, pre, hpre, hin⟩
  rw [List.append_nil] at hpre
  refine wpAny_pure (q true ⟨fun _ k hk => ?_, fun _ => rfl⟩)
  obtain ⟨e, he, hke⟩ := (hmem k).mp hk
  rw [hpre] at he
  obtain ⟨k', hk', hS'⟩ := hin e he
  obtain rfl : k' = k := knd.inj _ _ _ hk' hke
  exact hS'
set_option maxHeartbeats 3200000 in
theorem set_ne {a b : Addr} {S S' : κ → Bool} {n m : Nat} {Q : Value → Shared → Prop} (ha : s.heap.SetOf knd a S n) (hb : s.heap.SetOf knd b S' m) (hu : A.units < cLine)
  (q : ∀ r : Bool, (r = true ↔ (n = m ∧ ∀ k, S k = true → S' k = true)) → Q (.bool !r) s) : wpAny (model prog w) A (compareOp .NotEq (.ref a) (.ref b)) Q E s := by
 refine wpAny_richCompare_same_room (op := .NotEq) ha.typeIs hb.typeIs PySem.F.slot_set_ne (wpAny_call_entry PySem.F.slot_set_ne ha.typeIs Zfo ?_ (PySem.F.args_set_ne_2 _ _)) hu
 obtain ⟨oa, es, ep, t, hoa, ⟨hc1, hc2, hc3⟩, hda, hel, hmem, hz, hf, hn⟩ := id ha
 obtain ⟨ob, es', ep', t', hob, ⟨hc1', hc2', hc3'⟩, hdb, hel', hmem', hz', hf', hn'⟩ := id hb
 have hs1 : isSubtype (.type "set") (.type "set") = pure true := F.called_set.sub
 show wpAny _ _ (Builtin.Frozenset.slot1 "__ne__" ⟨[.ref a, .ref b], []⟩ >>= fun _ => _) _ _ s
 refine wpAny_bind ?_
 unfold Builtin.Frozenset.slot1
 refine wpAny_bind (wpAny_of_eq (a := (Value.ref a, [Value.ref b])) rfl (wpAny_pure ?_))
 unfold Builtin.Frozenset.isAnySet
 refine wpAny_bind (wpAny_bind (wpAny_isInstance hb.typeIs hs1 (wpAny_pure ?_)))
 rw [if_neg (by decide)]
 dsimp only
 refine wpAny_bind (wpAny_pure (wpAny_bind (wpAny_pure ?_)))
 unfold Builtin.Frozenset.sizeOf
 refine wpAny_bind (wpAny_bind (wpAny_setEntries_of hoa hda hf (wpAny_pure (wpAny_bind (wpAny_bind (wpAny_setEntries_of hob hdb hf' (wpAny_pure (wpAny_bind ?_))))))))
 have fin : ∀ r : Bool, (r = true ↔ (n = m ∧ ∀ k, S k = true → S' k = true)) → wpAny (model prog w) A.in1 (ret (.bool !r)) (fun fin s' => ∃ v, fin = .done (.ret v) ∧ (v ≠ .notImplemented ∧ Q v s')) E s := fun r hr => wpAny_pure ⟨_, rfl, (fun z => by cases z), q r hr⟩
 by_cases e : es.size = es'.size
 ·rw [if_neg (by simp [e])]
  refine wpAny_bind (wpAny_bind (wpAny_isInstance ha.typeIs ZfV (wpAny_pure ?_)))
  rw [if_neg (by decide)]
  exact ZjL ha hb (by omega) fun r hr => fin r ⟨fun z => ⟨by omega, hr.mp z⟩, fun z => hr.mpr z.2⟩
 ·rw [if_pos (by simpa using e)]
  exact wpAny_pure (fin false ⟨(fun z => by cases z), fun z => absurd (by omega) e⟩)
end
end My
namespace My
open PySem PySem.Spec L2
open PyProof.Rows hiding St
def Zix (ta tb : TA) : TE := fun σ H Q => ta σ H fun vs H1 => ∃ a ka, vs = [.ref a] ∧ Rd H1 a (.dK ka) ∧ ka.length ≤ 30 ∧ tb σ H1 fun us H2 => ∃ b kb, us = [.ref b] ∧ Rd H2 b (.dK kb) ∧ kb.length ≤ 30 ∧
 ∀ r : Bool, (r = true ↔ (ka.length = kb.length ∧ ∀ k ∈ ka.map (·.1), k ∈ kb.map (·.1))) → Q (.bl !r) H2
theorem ZgL {P : Program} {w : World} (k : Key) (u : Value) (h : (ZaO P w).is k u = true) : u.scannable = true := by
 have r := ZkL h
 cases k with
 | inl i => obtain ⟨t, rfl⟩ := (show ∃ t, u = Value.int i t from r); rfl
 | inr z => obtain ⟨t, rfl⟩ := (show ∃ t, u = Value.str z t from r); rfl
section
variable {X : Cx} {e1 e2 : Expr} {ta tb : TA} {p1 p2 q1 q2 pos : Pos}
theorem Inv.addPin {pins : List (Addr × Obj)} {σ : L2.St} {H : Hp} {s : Shared} {p : Addr × Obj} (I : Inv X pins σ H s) (h : s.heap.get? p.1 = some p.2 ∧ H p.1 = none ∧ p.1 ≠ X.env.locals ∧ p.1 ∉ X.fs ∧ ∀ v, p.2.data ≠ .cell v) : Inv X (p :: pins) σ H s :=
 ⟨I.ok, I.os, I.bare, I.base, I.loc, I.cell, I.free, I.freeC, fun x hx => by
  rcases List.mem_append.mp hx with hx | hx
  ·exact I.pin x (List.mem_append_left _ hx)
  ·rcases List.mem_cons.mp hx with rfl | hx
   ·exact h
   ·exact I.pin x (List.mem_append_right _ hx), I.hok, I.len⟩
theorem Inv.dropPin {pins : List (Addr × Obj)} {σ : L2.St} {H : Hp} {s : Shared} {p : Addr × Obj} (I : Inv X (p :: pins) σ H s) : Inv X pins σ H s :=
 ⟨I.ok, I.os, I.bare, I.base, I.loc, I.cell, I.free, I.freeC, fun x hx => I.pin x (by
  rcases List.mem_append.mp hx with hx | hx
  ·exact List.mem_append_left _ hx
  ·exact List.mem_append_right _ (List.mem_cons_of_mem _ hx)), I.hok, I.len⟩
theorem Zlm (hu : X.A.units < cLine) (hg : Gl X "set") (hm : X.mg "set" = none) (ha : QA X [e1] ta) (hb : QA X [e2] tb) (hp1 : Zao e1 = true := by rfl) (hp2 : Zao e2 = true := by rfl) :
  PC X .NotEq (.Call (.Name "set" p1) [e1] [] q1) (.Call (.Name "set" p2) [e2] [] q2) (Zix ta tb) := by
 intro pins s σ H Q I h
 refine wpAny_Call_Name_kw (ZbO I hg hm (show bootBuiltins "set" = some (.type "set") by decide +kernel) ?_ (by decide) (by decide))
 refine PyProof.Rows.callWith_type1 (thn (ha.h q1 pins s σ H _ I h) fun us s1 ⟨vs, H1, I1, r1, qq⟩ => ?_) (Zak hp1) rfl
 obtain ⟨a, ka, rfl, ea, hla, h2⟩ := qq
 obtain ⟨u, rfl, ru⟩ := Zcc r1
 cases ru
 obtain ⟨_, hd0, va, rel, dd⟩ := ZcS I1.hok ea
 refine Zdf hd0 dd ZgL (by rw [← rel.length]; exact hla) fun h1 S1 eS1 hS1 hk1 => ?_
 have hn1 : H1 s1.heap.objs.size = none := I1.hok.fresh (Nat.le_refl _)
 have f1 := I1.fpOk (Nat.le_refl _) hn1
 have I1' : Inv X pins σ H1 { s1 with heap := h1 } := I1.kept (t' := s1.toks) hk1
 obtain ⟨o1, es1, ep1, t1, ho1, hx1, hd1, hr1⟩ := id hS1
 have I2 : Inv X ((s1.heap.objs.size, o1) :: pins) σ H1 { s1 with heap := h1 } := Inv.addPin I1' ⟨ho1, hn1, f1.2.1, f1.2.2.1, fun v z => by rw [hd1] at z; cases z⟩
 refine wpAny_Call_Name_kw (ZbO I2 hg hm (show bootBuiltins "set" = some (.type "set") by decide +kernel) ?_ (by decide) (by decide))
 refine PyProof.Rows.callWith_type1 (thn (hb.h q2 _ _ σ H1 _ I2 h2) fun us s2 ⟨vs, H2, I3, r2, qq⟩ => ?_) (Zak hp2) rfl
 obtain ⟨b, kb, rfl, eb, hlb, q⟩ := qq
 obtain ⟨u, rfl, ru⟩ := Zcc r2
 cases ru
 obtain ⟨_, hd0', vb, rel', dd'⟩ := ZcS I3.hok eb
 have hS1' : s2.heap.SetOf (ZaO X.prog X.w) s1.heap.objs.size S1 va.length := ⟨o1, es1, ep1, t1, (I3.pin _ (List.mem_append_right _ (List.mem_cons_self ..))).1, hx1, hd1, hr1⟩
 refine Zdf hd0' dd' ZgL (by rw [← rel'.length]; exact hlb) fun h3 S2 eS2 hS2 hk2 => ?_
 have hS1'' : h3.SetOf (ZaO X.prog X.w) s1.heap.objs.size S1 va.length := let ⟨o, es, ep, t, ho, r⟩ := hS1'; ⟨o, es, ep, t, hk2 _ _ ho, r⟩
 have I4 : Inv X pins σ H2 { s2 with heap := h3 } := (Inv.dropPin I3).kept (t' := s2.toks) hk2
 refine set_ne (s := { s2 with heap := h3 }) hS1'' hS2 hu fun r hr => ⟨.bl !r, H2, I4, rfl, q r ?_⟩
 rw [hr, rel.length, rel'.length, rel.keys, rel'.keys]
 exact ⟨fun z => ⟨z.1, fun k hk => (eS2 k).mp (z.2 k ((eS1 k).mpr hk))⟩, fun z => ⟨z.1, fun k hk => (eS2 k).mpr (z.2 k ((eS1 k).mp hk))⟩⟩
theorem t_setNe (hu : X.A.units < cLine) (hg : Gl X "set") (hm : X.mg "set" = none) (ha : QA X [e1] ta) (hb : QA X [e2] tb) (hp1 : Zao e1 = true := by rfl) (hp2 : Zao e2 = true := by rfl) :
  QT X (.Compare (.Call (.Name "set" p1) [e1] [] q1) [.NotEq] [.Call (.Name "set" p2) [e2] [] q2] pos) (tB (Zix ta tb)) := ⟨pt_cmp (Zlm hu hg hm ha hb hp1 hp2)⟩
end
end My
namespace My
open PySem PySem.Spec L2
open PyProof.Rows hiding St
def tListV (td : TE) : TE := fun σ H Q => td σ H fun x H1 => ∃ a kvs, x = .ref a ∧ Rd H1 a (.dK kvs) ∧ ∀ l H2, H1 l = none → Same H1 H2 → H2 l = some (.lst (kvs.map (·.2))) → Q (.ref l) H2
theorem kv_val {kvs : List (Key × V)} {vs : List (Key × Value)} (r : KV kvs vs) : ∀ {i : Nat} {kv : Key × V} {k : Key} {u : Value}, kvs[i]? = some kv → vs[i]? = some (k, u) → RelV kv.2 u := by
 unfold KV at r
 induction r with
 | nil => intro i kv k u h; simp at h
 | cons h t ih =>
  intro i kv k u h1 h2
  cases i with
  | zero => simp at h1 h2; subst h1; rw [h2] at h; exact h.2
  | succ i => exact ih (by simpa using h1) (by simpa using h2)
section
variable {X : Cx} {o : Expr} {td : TE} {p pos apos cpos : Pos}
theorem Zhq (hg : Gl X "list") (hm : X.mg "list" = none) (ho : QE X o td) (hbase : attributeBase o "values" X.env (eval o X.env) = eval o X.env := by rfl) (hline : (apos.endLine == cpos.line) = true := by rfl) (hc : X.calm = true := by rfl) :
  QE X (.Call (.Name "list" p) [.Call (.Attribute o "values" apos) [] [] cpos] [] pos) (tListV td) := ⟨by
 intro pins s σ H Q I h
 refine wpAny_Call_Name_kw (ZbO I hg hm (show bootBuiltins "list" = some (.type "list") by decide +kernel) ?_ (by decide) (by decide))
 refine PyProof.Rows.callWith_type1 ?_ rfl rfl
 show wpAny _ _ (spliced ((false, eval (.Call (.Attribute o "values" apos) [] [] cpos) X.env) :: [])) _ _ s
 refine Calls.spliced_cons ?_
 refine wpAny_Call_method0_late hbase hline (thn (ho.h pins s σ H _ I h) fun v s1 ⟨x, H1, I1, r1, a, kvs, ex, ea, q⟩ => ?_)
 subst ex
 obtain rfl : v = Value.ref a := r1
 obtain ⟨t1, t2, _⟩ := isD_at I1 (.inl ⟨kvs, ea⟩)
 obtain ⟨z, hd, vs, rel, dd⟩ := ZcS I1.hok ea
 refine ⟨"dict", "dict.values", PySem.F.plainAttrs_dict, PySem.F.slot_dict_values, PySem.F.type_dict_values, t1, t2, Calls.callWith_builtin rfl (PySem.evalArgs_none ?_)⟩
 refine call_meetsIn PySem.F.slot_dict_values dd.typeIs PySem.F.entry_dict_values (PySem.F.args_dict_values_1 _) (meets_dict_values (ZaO X.prog X.w) a hd) ⟨⟨vs, dd⟩, Calls.spliced_nil ?_⟩
 have I2 : Inv X pins σ H1 { s1 with heap := s1.heap.push { cls := .type "dict_values", data := .fields #[.ref a] } } := I1.kept (t' := s1.toks) fun b o e => Heap.get?_push_of_some _ e
 obtain ⟨ep, at_⟩ := dd.dictAt
 have hf := I2.hok.fresh (Nat.le_refl _)
 refine PySem.W.kdl_call (PySem.W.kdl_values (knd := ZaO X.prog X.w) (kvs := vs) (ep := ep)) (I1.ok.hd hc) ⟨⟨_, Heap.get?_push_size _ rfl, rfl, rfl⟩, at_.push _⟩ (by rw [← rel.length]; exact z) fun h' tk acc' c' kk hl ⟨hs, hacc⟩ => ?_
 refine ⟨.ref _, _, I2.laid (o := .lst (kvs.map (·.2))) kk (Nat.le_refl _) (show ObjOk X.prog X.w _ h' _ (.lst (kvs.map (·.2))) from ⟨by rw [List.length_map]; exact z, acc'.toList, c', ZdQ ?_ fun i x u e1 e2 => ?_, by simpa using hl⟩), rfl, q _ _ hf (ZaK hf _) upd_same⟩
 ·rw [List.length_map, rel.length]; simpa using hs.symm
 ·obtain ⟨k, g1⟩ := hacc i u (by simpa using e2)
  rw [List.getElem?_map] at e1
  obtain ⟨kv, g3, rfl⟩ := Option.map_eq_some_iff.mp e1
  exact kv_val rel g3 g1⟩
end
end My
set_option maxHeartbeats 4000000
namespace My
open PySem L2
theorem Zif {i j : Int} : scal (.int i) (.int j) = true := rfl
theorem Zh9 {i j : Str} : scal (.str i) (.str j) = true := rfl
end My
local macro_rules | `(tactic| walk_at "rd") => `(tactic| ((try dsimp only [L2.tSeq, L2.Zkp, L2.tRet, L2.tRetN, L2.tIfS, L2.ZkC, L2.Zj9, L2.Zcu, L2.tVar, L2.tC, L2.tOp, L2.tUn, L2.rI, L2.rI0, L2.rU, L2.rEq, L2.rNe, L2.Zdl, L2.tB, L2.tAnd, L2.tOr, L2.tNot, L2.Zlr, L2.tOrV, L2.Zli, L2.tIf, L2.Zf3, L2.tCB, L2.tNil, L2.ZhL, My.Zkg, My.ZkD, L2.tPar, My.ZlB, L2.Zki, L2.gNil, My.Zlb, My.rIxL2, L2.rIxL, L2.rCat, L2.CPow, L2.CMul, L2.CDiv, L2.tBM, L2.ZfT, List.getElem?_cons_zero, List.getElem?_cons_succ, List.set_cons_zero, List.set_cons_succ, List.cons_append, List.nil_append, My.Zif, My.Zh9, Bool.not_true, Bool.not_false, List.length_cons, List.length_nil, My.tApp, My.tMakeX, My.tTry0, My.ZjR, My.tFs, My.tLm0, My.tLm, L2.Zg4, L2.rClear, L2.rPop, L2.ZeG, My.tDG, My.sDP, My.tDI, L2.rIxS, L2.tSl, L2.ZeL, L2.Zle, My.tXm, My.ZlF, My.ZlD, My.rSlX, My.ZeB, My.rEqP, My.rNeP, My.Zdt, My.ZgG, My.rSumI, L2.tDGet2, My.tMethX, L2.Zg8, L2.gSub, L2.Zk1, L2.ZhX, L2.Zkm, L2.tFld, L2.sFld, My.tTry, My.tXE, My.tXS, My.tCallX, My.tRaise]); (try simp only [L2.tSeq, L2.Zkp, L2.tRet, L2.tRetN, L2.tIfS, L2.ZkC, L2.Zj9, L2.Zcu, L2.tVar, L2.tC, L2.tOp, L2.tUn, L2.rI, L2.rI0, L2.rU, L2.rEq, L2.rNe, L2.Zdl, L2.tB, L2.tAnd, L2.tOr, L2.tNot, L2.Zlr, L2.tOrV, L2.Zli, L2.tIf,
 L2.Zf3, L2.tCB, L2.tNil, L2.ZhL, My.Zkg, My.ZkD, L2.tPar, My.ZlB, L2.Zki, L2.gNil, My.Zlb, My.rIxL2, L2.rIxL, L2.rCat, L2.CPow, L2.CMul, L2.CDiv, L2.tBM, L2.ZfT,
 List.getElem?_cons_zero, List.getElem?_cons_succ, List.set_cons_zero, List.set_cons_succ, List.append_nil, List.cons_append, List.nil_append, Option.some.injEq, Option.some_inj, exists_eq_left, exists_eq_left', exists_eq_right, exists_eq, exists_eq', exists_and_left, exists_and_right, exists_const,
 L2.V.int.injEq, L2.V.bl.injEq, L2.V.ref.injEq, L2.V.str.injEq, L2.V.ty.injEq, L2.HO.lst.injEq, L2.HO.tup.injEq, reduceCtorEq, List.cons.injEq, and_true, true_and, and_false, false_and, exists_false, or_false, false_or, My.Zif, My.Zh9, Bool.not_true, Bool.not_false, decide_eq_true_eq, Bool.false_eq_true, if_true, if_false, Bool.not_eq_true', decide_eq_false_iff_not, ite_self, ge_iff_le, gt_iff_lt, My.atI0, My.atI1, My.atI2, My.atI3, List.length_cons, List.length_nil, Nat.zero_add, and_assoc, My.tApp, My.tMakeX, My.tTry0, My.ZjR, My.tFs, My.tLm0, My.tLm, L2.Zg4, L2.rClear, L2.rPop, L2.ZeG, My.tDG, My.sDP, My.tDI, L2.rIxS, L2.tSl, L2.ZeL, L2.Zle, My.tXm, My.ZlF, My.ZlD, My.rSlX, My.ZeB, My.rEqP, My.rNeP, My.Zdt, My.ZgG, My.rSumI, L2.tDGet2, My.tMethX, L2.Zg8, L2.gSub, L2.Zk1, L2.ZhX, L2.Zkm, L2.tFld, L2.sFld, My.tTry, My.tXE, My.tXS, My.tCallX, My.tRaise, My.kind_bl, My.ZlP, My.ask_int, My.Zkv, My.ZjW, My.Zln, My.ask_str, My.isa_bb, My.isa_bi, My.isa_ii, My.isa_ib, My.isa_tt, My.isa_ll, Bool.true_eq_false, Int.reduceToNat, Int.reducePow, Int.reduceLT, Int.reduceLE, Int.reduceNeg, Int.reduceAbs, Int.reduceSub, Int.reduceMul, Nat.reduceLT, Nat.reduceLeDiff, Nat.reducePow, Int.zero_add, true_or, or_true, eq_self])))
namespace My
open PySem PySem.Spec L2
open PyProof.Rows hiding St
def top (i : Nat) : Stmt := PySem.Challenge.pw_roadshare_k33_refused_ones_have_groups.main.body.getD i (.Pass ⟨0, 0, 0, 0⟩)
abbrev Zbz : Stmt := top 8
theorem Zgd : FnScope ["thing"] ["thing"] (Zaa Zbz) := ⟨rfl, rfl, rfl, by decide +kernel, rfl, by decide +kernel, by decide +kernel⟩
abbrev Zaz : Stmt := top 9
theorem sc_greatest_divisor : FnScope ["one", "other", "larger", "smaller", "rest"] ["one", "other"] (Zaa Zaz) := ⟨rfl, rfl, rfl, by decide +kernel, rfl, by decide +kernel, by decide +kernel⟩
abbrev ZbB : Stmt := top 12
theorem sc_is_ratio : FnScope ["thing", "top", "bottom"] ["thing"] (Zaa ZbB) := ⟨rfl, rfl, rfl, by decide +kernel, rfl, by decide +kernel, by decide +kernel⟩
abbrev Zbp : Stmt := top 13
theorem sc_ratio : FnScope ["top", "bottom", "divisor"] ["top", "bottom"] (Zaa Zbp) := ⟨rfl, rfl, rfl, by decide +kernel, rfl, by decide +kernel, by decide +kernel⟩
abbrev ZaH : Stmt := top 10
theorem Zc1 : FnScope ["one", "other"] ["one", "other"] (Zaa ZaH) := ⟨rfl, rfl, rfl, by decide +kernel, rfl, by decide +kernel, by decide +kernel⟩
abbrev ZbV : Stmt := top 14
theorem Zhz : FnScope ["one", "other"] ["one", "other"] (Zaa ZbV) := ⟨rfl, rfl, rfl, by decide +kernel, rfl, by decide +kernel, by decide +kernel⟩
abbrev ZbU : Stmt := top 15
theorem ZhZ : FnScope ["one", "other"] ["one", "other"] (Zaa ZbU) := ⟨rfl, rfl, rfl, by decide +kernel, rfl, by decide +kernel, by decide +kernel⟩
abbrev ZbF : Stmt := top 16
theorem sc_total_of : FnScope ["some", "bottom"] ["some"] (Zaa ZbF) := ⟨rfl, rfl, rfl, by decide +kernel, rfl, by decide +kernel, by decide +kernel⟩
abbrev ZaS : Stmt := top 17
theorem sc_common_bottom : FnScope ["some", "bottom", "one"] ["some"] (Zaa ZaS) := ⟨rfl, rfl, rfl, by decide +kernel, rfl, by decide +kernel, by decide +kernel⟩
abbrev Zbw : Stmt := top 18
theorem Zgb : FnScope ["one", "bottom"] ["one", "bottom"] (Zaa Zbw) := ⟨rfl, rfl, rfl, by decide +kernel, rfl, by decide +kernel, by decide +kernel⟩
abbrev Zbx : Stmt := top 32
theorem Zge : FnScope ["thing"] ["thing"] (Zaa Zbx) := ⟨rfl, rfl, rfl, by decide +kernel, rfl, by decide +kernel, by decide +kernel⟩
abbrev ZbX : Stmt := top 33
theorem sc_is_road : FnScope ["thing", "many", "to"] ["thing", "many"] (Zaa ZbX) := ⟨rfl, rfl, rfl, by decide +kernel, rfl, by decide +kernel, by decide +kernel⟩
abbrev Zbc : Stmt := top 34
theorem sc_look_roads : FnScope ["thing", "many", "road"] ["thing"] (Zaa Zbc) := ⟨rfl, rfl, rfl, by decide +kernel, rfl, by decide +kernel, by decide +kernel⟩
abbrev ZbA : Stmt := top 35
theorem sc_way_from : FnScope ["roads", "k", "way", "place"] ["roads", "k"] (Zaa ZbA) := ⟨rfl, rfl, rfl, by decide +kernel, rfl, by decide +kernel, by decide +kernel⟩
abbrev Zau : Stmt := ZcG (top 36) 0
theorem Zdm : FnScope ["self", "roads"] ["self", "roads"] (Zaa Zau) := ⟨rfl, rfl, rfl, by decide +kernel, rfl, by decide +kernel, by decide +kernel⟩
abbrev ZaT : Stmt := ZcG (top 36) 2
theorem Zfc : FnScope ["self"] ["self"] (Zaa ZaT) := ⟨rfl, rfl, rfl, by decide +kernel, rfl, by decide +kernel, by decide +kernel⟩
abbrev ZaI : Stmt := ZcG (top 36) 4
theorem Ze7 : FnScope ["self", "k"] ["self", "k"] (Zaa ZaI) := ⟨rfl, rfl, rfl, by decide +kernel, rfl, by decide +kernel, by decide +kernel⟩
abbrev Zal : Stmt := ZcG (top 36) 7
theorem Zcd : FnScope ["self", "k"] ["self", "k"] (Zaa Zal) := ⟨rfl, rfl, rfl, by decide +kernel, rfl, by decide +kernel, by decide +kernel⟩
abbrev Zas : Stmt := ZcG (top 36) 8
theorem Zc2 : FnScope ["self", "k"] ["self", "k"] (Zaa Zas) := ⟨rfl, rfl, rfl, by decide +kernel, rfl, by decide +kernel, by decide +kernel⟩
abbrev Za2 : Stmt := ZcG (top 36) 5
theorem Zf9 : FnScope ["self", "k"] ["self", "k"] (Zaa Za2) := ⟨rfl, rfl, rfl, by decide +kernel, rfl, by decide +kernel, by decide +kernel⟩
abbrev Zaw : Stmt := ZcG (top 36) 6
theorem Zed : FnScope ["self", "k"] ["self", "k"] (Zaa Zaw) := ⟨rfl, rfl, rfl, by decide +kernel, rfl, by decide +kernel, by decide +kernel⟩
abbrev Zcm : Stmt := top 20
theorem sc_needed : FnScope ["tree", "homes", "group", "roads", "name"] ["tree", "homes", "group"] (Zaa Zcm) := ⟨rfl, rfl, rfl, by decide +kernel, rfl, by decide +kernel, by decide +kernel⟩
abbrev ZaC : Stmt := top 21
theorem ZcT : FnScope ["tree", "homes"] ["tree", "homes"] (Zaa ZaC) := ⟨rfl, rfl, rfl, by decide +kernel, rfl, by decide +kernel, by decide +kernel⟩
abbrev Zer : Stmt := top 22
theorem sc_cost : FnScope ["tree", "homes", "group"] ["tree", "homes", "group"] (Zaa Zer) := ⟨rfl, rfl, rfl, by decide +kernel, rfl, by decide +kernel, by decide +kernel⟩
abbrev Za3 : Stmt := top 23
theorem Zei : FnScope ["tree", "homes"] ["tree", "homes"] (Zaa Za3) := ⟨rfl, rfl, rfl, by decide +kernel, rfl, by decide +kernel, by decide +kernel⟩
abbrev Zc4 : Stmt := top 24
theorem sc_users : FnScope ["tree", "homes", "k", "places"] ["tree", "homes", "k"] (Zaa Zc4) := ⟨rfl, rfl, rfl, by decide +kernel, rfl, by decide +kernel, by decide +kernel⟩
abbrev ZaZ : Stmt := top 26
theorem Zee : FnScope ["tree", "homes", "sharing"] ["tree", "homes", "sharing"] (Zaa ZaZ) := ⟨rfl, rfl, rfl, by decide +kernel, rfl, by decide +kernel, by decide +kernel⟩
abbrev Zco : Stmt := top 27
theorem sc_judged : FnScope ["tree", "homes", "sharing", "name", "left", "table", "road", "payers", "amount"] ["tree", "homes", "sharing"] (Zaa Zco) := ⟨rfl, rfl, rfl, by decide +kernel, rfl, by decide +kernel, by decide +kernel⟩
abbrev Zcr : Stmt := top 28
theorem ZiC : FnScope ["homes", "names"] ["homes", "names"] (Zaa Zcr) := ⟨rfl, rfl, rfl, by decide +kernel, rfl, by decide +kernel, by decide +kernel⟩
abbrev Zby : Stmt := top 29
theorem sc_payments : FnScope ["price", "payers", "left", "rows", "due", "name", "amount"] ["price", "payers", "left"] (Zaa Zby) := ⟨rfl, rfl, rfl, by decide +kernel, rfl, by decide +kernel, by decide +kernel⟩
abbrev Za1 : Stmt := top 38
theorem Zek : FnScope ["_law_script", "_law_k"] ["_law_script", "_law_k"] (Zaa Za1) := ⟨rfl, rfl, rfl, by decide +kernel, rfl, by decide +kernel, by decide +kernel⟩
abbrev Zbj : Stmt := top 39
theorem ZfK : FnScope ["_law_cell", "_law_k"] ["_law_cell", "_law_k"] (Zaa Zbj) := ⟨rfl, rfl, rfl, by decide +kernel, rfl, by decide +kernel, by decide +kernel⟩
abbrev Za4 : Stmt := top 40
theorem sc_law_numbers : FnScope ["_law_cell", "_law_many", "_law_most", "_law_made", "_law_rest", "_law_k"] ["_law_cell", "_law_many", "_law_most"] (Zaa Za4) := ⟨rfl, rfl, rfl, by decide +kernel, rfl, by decide +kernel, by decide +kernel⟩
abbrev Zb1 : Stmt := top 41
theorem sc_law_low : FnScope ["_law_top", "_law_bottom", "_law_one", "_law_other"] ["_law_top", "_law_bottom"] (Zaa Zb1) := ⟨rfl, rfl, rfl, by decide +kernel, rfl, by decide +kernel, by decide +kernel⟩
abbrev ZaV : Stmt := top 42
theorem Zdz : FnScope ["_law_number", "_law_wide"] ["_law_number", "_law_wide"] (Zaa ZaV) := ⟨rfl, rfl, rfl, by decide +kernel, rfl, by decide +kernel, by decide +kernel⟩
abbrev Zat : Stmt := top 43
theorem sc_law_roads_by : FnScope ["_law_script", "_law_most", "_law_head", "_law_many", "_law_wide", "_law_turned", "_law_k", "_law_number", "_law_other", "_law_roads", "_law_prices", "_law_to"] ["_law_script", "_law_most"] (Zaa Zat) := ⟨rfl, rfl, rfl, by decide +kernel, rfl, by decide +kernel, by decide +kernel⟩
abbrev ZaW : Stmt := top 44
theorem sc_law_names_by : FnScope ["_law_cell", "_law_many", "_law_some", "_law_word", "_law_rest", "_law_k", "_law_spot", "_law_at", "_law_names", "_law_made", "_law_more"] ["_law_cell", "_law_many"] (Zaa ZaW) := ⟨rfl, rfl, rfl, by decide +kernel, rfl, by decide +kernel, by decide +kernel⟩
abbrev ZaX : Stmt := top 45
theorem sc_law_homes_by : FnScope ["_law_script", "_law_many", "_law_head", "_law_names", "_law_homes", "_law_name", "_law_number"] ["_law_script", "_law_many"] (Zaa ZaX) := ⟨rfl, rfl, rfl, by decide +kernel, rfl, by decide +kernel, by decide +kernel⟩
abbrev Zb3 : Stmt := top 46
theorem sc_law_way : FnScope ["_law_roads", "_law_k", "_law_way_here"] ["_law_roads", "_law_k"] (Zaa Zb3) := ⟨rfl, rfl, rfl, by decide +kernel, rfl, by decide +kernel, by decide +kernel⟩
abbrev ZbY : Stmt := top 47
theorem ZhF : FnScope ["_law_one", "_law_other"] ["_law_one", "_law_other"] (Zaa ZbY) := ⟨rfl, rfl, rfl, by decide +kernel, rfl, by decide +kernel, by decide +kernel⟩
abbrev ZbC : Stmt := top 48
theorem Zgz : FnScope ["_law_one", "_law_other"] ["_law_one", "_law_other"] (Zaa ZbC) := ⟨rfl, rfl, rfl, by decide +kernel, rfl, by decide +kernel, by decide +kernel⟩
abbrev Zbk : Stmt := top 49
theorem sc_law_total : FnScope ["_law_some", "_law_total_here", "_law_one"] ["_law_some"] (Zaa Zbk) := ⟨rfl, rfl, rfl, by decide +kernel, rfl, by decide +kernel, by decide +kernel⟩
abbrev ZbD : Stmt := top 50
theorem sc_law_cost : FnScope ["_law_roads", "_law_homes", "_law_group", "_law_known", "_law_name", "_law_k"] ["_law_roads", "_law_homes", "_law_group"] (Zaa ZbD) := ⟨rfl, rfl, rfl, by decide +kernel, rfl, by decide +kernel, by decide +kernel⟩
abbrev ZaQ : Stmt := top 51
theorem sc_law_shared_by : FnScope ["_law_roads", "_law_homes", "_law_cell", "_law_sharing", "_law_name", "_law_numbers_here", "_law_k", "_law_names", "_law_parts", "_law_part", "_law_price"] ["_law_roads", "_law_homes", "_law_cell"] (Zaa ZaQ) := ⟨rfl, rfl, rfl, by decide +kernel, rfl, by decide +kernel, by decide +kernel⟩
abbrev ZaD : Stmt := top 52
theorem sc_law_group_holds : FnScope ["_law_roads", "_law_homes", "_law_sharing", "_law_group", "_law_name", "_law_more"] ["_law_roads", "_law_homes", "_law_sharing", "_law_group"] (Zaa ZaD) := ⟨rfl, rfl, rfl, by decide +kernel, rfl, by decide +kernel, by decide +kernel⟩
abbrev ZeX : Stmt := top 53
theorem sc_law : FnScope ["_law_script", "_law_roads", "_law_homes", "_law_tree", "_law_sharing", "_law_names", "_law_cell", "_law_one", "_law_at", "_law_other", "_law_more", "_law_handed", "_law_turn", "_law_told"] ["_law_script"] (Zaa ZeX) := ⟨rfl, rfl, rfl, by decide +kernel, rfl, by decide +kernel, by decide +kernel⟩
theorem ZcK {c : TT} {a b : TS} {D : Ends} {σ : St} {H : Hp} (h : ∀ A : St → Hp → Prop, A = a D → ∀ B : St → Hp → Prop, B = b D → c σ H fun x H1 => if x = true then A σ H1 else B σ H1) : tIfS c a b D σ H := h _ rfl _ rfl
theorem ZaR {a b : TS} {D : Ends} {σ : St} {H : Hp} (h : ∀ B : St → Hp → Prop, B = b D → a { D with nx := B } σ H) : tSeq a b D σ H := h _ rfl
def isW : V → Bool
 | .int _ => true
 | _ => false
def Th0 (H : Hp) (x : V) : Prop := ∃ t, ZcF H x = some t
def Zbu : Sp := fun vs H Q _ => ∃ x, vs = [x] ∧ Th0 H x ∧ Q (.bl (isW x)) H
def ZdK : Sp := fun vs H Q _ => ∃ a b : Int, vs = [.int a, .int b] ∧ Q (.int (Int.gcd a b)) H
def Zb5 (K : PySem.W.Frag) : Sp := fun vs H Q _ => ∃ (a : Addr) (ns : List Int) (k : Nat), vs = [.ref a, .int k] ∧ SqL K H a (ns.map V.int) ∧ Q (.int (cellOf ns k)) H
section
variable {P : Program} {w : World} {K : PySem.W.Frag} {mg : Str → Option Value} {base : Heap} {f : Addr} {fd : FuncData}
theorem Zk7 {H : Hp} {x : V} {t : String} (e : ZcF H x = some t) : (isA t "int" && !isA t "bool") = isW x := by
 unfold ZcF at e
 split at e
 ·cases e; rfl
 ·cases e; rfl
 ·cases e; rfl
 ·cases e; rfl
 ·split at e
  ·cases e; rfl
  ·cases e; rfl
  ·cases e; rfl
  ·cases e
 ·cases e
theorem ZfS (F : Fun K "is_whole" "is_whole" Zbz f fd) (n_isinstance : mg "isinstance" = none) (n_int : mg "int" = none) (n_bool : mg "bool" = none) :
  FnOk P w K mg base CX0 1 f fd ["thing"] Zbu := by
 refine okQ F Zgd (fun vs H Q E h => ?_) (fun cdv A outer s H vs Q E hr h => ?_)
 ·obtain ⟨x, rfl, _⟩ := h; rfl
 obtain ⟨x, rfl, ⟨t, ht⟩, q⟩ := h
 refine ⟨_, (Zai (Zay (ZhR (Zdh rfl n_isinstance (a_c (q_v 0) (a_c (q_ty rfl n_int rfl) Zab))) (ZjY (q_not (Zdh rfl n_isinstance (a_c (q_v 0) (a_c (q_ty rfl n_bool rfl) Zab)))))))), ?_⟩
 rw [show Zav ["thing"] [x] = [some (x)] from rfl]
 rw [← Zk7 ht] at q
 refine ⟨_, rfl, x, "int", t, rfl, ht, by decide, _, rfl, ?_⟩
 refine Ze9 (fun c => ?_) (fun c => ?_)
 ·refine ⟨_, rfl, x, "bool", t, rfl, ht, by decide, _, rfl, ?_⟩
  rw [c] at q
  exact q
 ·rw [Bool.eq_false_iff.mpr c] at q
  exact q
def Pg (a b : Int) (H : Hp) (σ : St) (H' : Hp) : Prop := ∃ (l m : Int) (r : Option V), σ = [some (.int a), some (.int b), some (.int l), some (.int m), r] ∧ H' = H ∧ 0 ≤ l ∧ 0 ≤ m ∧ Int.gcd l m = Int.gcd a b
theorem ok_gcd (F : Fun K "greatest_divisor" "greatest_divisor" Zaz f fd) (n_abs : mg "abs" = none) :
  FnOk P w K mg base CX0 1 f fd ["one", "other"] ZdK := by
 refine okQ F sc_greatest_divisor (fun vs H Q E h => ?_) (fun cdv A outer s H vs Q E hr h => ?_)
 ·obtain ⟨a, b, rfl, _⟩ := h; rfl
 obtain ⟨a, b, rfl, q⟩ := h
 refine ⟨_, (Zac (Zap 2 sc_greatest_divisor.nd (q_abs rfl n_abs (a_c (q_v 0) Zab)))
   (Zac (Zap 3 sc_greatest_divisor.nd (q_abs rfl n_abs (a_c (q_v 1) Zab)))
   (Zac (ZeU PassesOwn.never (t_ne (q_v 3) Zad) (Zac (Zap 4 sc_greatest_divisor.nd (Za7 (q_v 2) (q_v 3)))
   (Zac (Zap 2 sc_greatest_divisor.nd (q_v 3))
   (Zai (Zap 3 sc_greatest_divisor.nd (q_v 4))))))
   (Zai (Zay (q_v 2)))))), ?_⟩
 rw [show Zav ["one", "other", "larger", "smaller", "rest"] [.int a, .int b] = [some (.int a), some (.int b), none, none, none] from rfl]
 walk_at "rd"
 simp only [Zjz]
 refine Ze8 (Pg a b H) (fun σ _ => (Zla σ 3).toNat) ⟨_, _, none, rfl, rfl, by omega, by omega, ZiX a b⟩ ?_
 rintro σ H' ⟨l, m, r, rfl, rfl, hl, hm, hg⟩
 walk_at "rd"
 refine Ze9 (fun c => ?_) (fun c => ?_)
 ·have hm' : 0 < m := by omega
  refine ⟨_, fun σ' H' z => z, hm', _, ?_, rfl, m, l % m, some (.int (l % m)), rfl, rfl, hm, Int.emod_nonneg _ (by omega), ?_⟩
  ·exact Zd4 hm'
  ·rw [ZgI]; exact hg
 ·have e : m = 0 := by omega
  subst e
  have e2 : (Int.gcd a b : Int) = l := by rw [← hg]; simp; omega
  rw [e2] at q
  exact q
theorem ok_cell (F : Fun K "_law_cell_at" "_law_cell_at" Za1 f fd) (n_len : mg "len" = none) :
  FnOk P w K mg base CX0 1 f fd ["_law_script", "_law_k"] (Zb5 K) := by
 refine okQ F Zek (fun vs H Q E h => ?_) (fun cdv A outer s H vs Q E hr h => ?_)
 ·obtain ⟨a, ns, k, rfl, _⟩ := h; rfl
 obtain ⟨a, ns, k, rfl, hS, q⟩ := h
 refine ⟨_, (Zac (Zc0 (t_lt (q_v 1) (q_lenS rfl n_len (a_c (q_v 0) Zab))) (Zai (Zay (q_ixS (q_v 0) (q_v 1)))) Zbs)
   (Zai (Zay (ZbG (q_mul Zad (q_v 1)) Zad)))), ?_⟩
 rw [show Zav ["_law_script", "_law_k"] [.ref a, .int k] = [some (.ref a), some (.int k)] from rfl]
 walk_at "rd"
 refine ⟨_, .inl hS, ?_⟩
 rw [List.length_map]
 refine Ze9 (fun c => ?_) (fun c => ?_)
 ·exact ⟨_, hS, _, cell_in (by omega), q⟩
 ·rw [ZlS (by omega)] at q
  exact q
theorem Zc7 {H : Hp} (i : Int) : Th0 H (.int i) := ⟨"int", rfl⟩
end
def RatV (H : Hp) (x : V) (q : Rat) : Prop := ∃ p, x = .ref p ∧ H p = some (.tup [.int q.num, .int (q.den : Int)])
theorem RatV.same {H H' : Hp} {x : V} {q : Rat} (h : RatV H x q) (s : Same H H') : RatV H' x q := by
 obtain ⟨p, e, h⟩ := h
 exact ⟨p, e, s _ _ h⟩
def Big (b : Int) : Prop := b.natAbs < 2 ^ 8000
theorem Big.of {b : Int} {n : Nat} (h : b.natAbs < 2 ^ n) (hn : n ≤ 8000) : Big b := ZaN h hn
theorem Zd8 {t b : Int} (hb : 0 < b) : t.fdiv (Int.gcd t b : Int) = (Rat.divInt t b).num ∧ b.fdiv (Int.gcd t b : Int) = ((Rat.divInt t b).den : Int) := by
 have e : ZbM t b = (Int.gcd t b : Int) := by unfold ZbM; rw [if_neg (by omega)]
 have h := ZbJ (t := t) (b := b) (by omega)
 rw [← e, Zb4 (Zbv t b), Zb4 (Za5 t b)]
 exact h
def Zb8 : Sp := fun vs H Q _ => ∃ t b : Int, vs = [.int t, .int b] ∧ Big b ∧ 0 < b ∧ ∀ r H', Same H H' → RatV H' r (Rat.divInt t b) → Q r H'
theorem ZiV {H : Hp} {x y : V} {q : Rat} (hx : RatV H x q) (hy : RatV H y q) : ∃ p c, x = .ref p ∧ y = .ref c ∧ EqD H x y true 1 := by
 obtain ⟨p, rfl, hp⟩ := hx
 obtain ⟨c, rfl, hc⟩ := hy
 refine ⟨p, c, rfl, rfl, ?_⟩
 have h := EqD.tup (e := fun _ => true) (n := 0) hp hc fun j x y h1 h2 => by
  rw [h1] at h2
  cases h2
  match j, h1 with
  | 0, h1 => cases h1; have z := EqD.flat (H := H) (x := .int q.num) (y := .int q.num) rfl rfl; rw [ZcW rfl] at z; exact z
  | 1, h1 => cases h1; have z := EqD.flat (H := H) (x := .int (q.den : Int)) (y := .int (q.den : Int)) rfl rfl; rw [ZcW rfl] at z; exact z
 exact h
def Zb0 : Sp := fun vs H Q _ => ∃ t b : Int, vs = [.int t, .int b] ∧ Big b ∧ b ≠ 0 ∧ ∀ r H', Same H H' → RatV H' r (Rat.divInt t b) → Q r H'
section
variable {P : Program} {w : World} {K : PySem.W.Frag} {mg : Str → Option Value} {base : Heap} {f : Addr} {fd : FuncData} {dV : Value} {cNF : Addr}
theorem Zkz (F : FunD K "ratio" "ratio" Zbp dV f fd) (F_is_whole : Fn P w K mg base CX0 1 "is_whole" ["thing"] Zbu) (F_greatest_divisor : Fn P w K mg base CX0 1 "greatest_divisor" ["one", "other"] ZdK) :
  FnOk P w K mg base CX0 2 f fd ["top", "bottom"] Zb0 := by
 refine okQD F sc_ratio (fun vs H Q E h => ?_) (fun cdv A outer s H vs Q E hr h => ?_)
 ·obtain ⟨t, b, rfl, _⟩ := h; rfl
 obtain ⟨t, b, rfl, hz, hb0, q⟩ := h
 refine ⟨_, (Zac (Zc0 (t_w (Zh4 (Zc5 (Zcb (ZaY F_is_whole hr (by decide) rfl (a_c (q_v 0) Zab)))) (Zfm (Zc5 (Zcb (ZaY F_is_whole hr (by decide) rfl (a_c (q_v 1) Zab))))))) (Zai ZbR) Zbs)
   (Zac (Zc0 (t_eq (q_v 1) Zad) (Zai ZbR) Zbs)
   (Zac (Zap 2 sc_ratio.nd (ZaY F_greatest_divisor hr (by decide) rfl (a_c (q_v 0) (a_c (q_v 1) Zab))))
   (Zac (Zc0 (t_lt (q_v 1) Zad) (Zai (Zap 2 sc_ratio.nd (q_neg (q_v 2)))) Zbs)
   (Zai (Zay (ZcH (a_c (ZcZ (q_v 0) (q_v 2)) (a_c (ZcZ (q_v 1) (q_v 2)) Zab))))))))), ?_⟩
 rw [show Zav ["top", "bottom", "divisor"] [.int t, .int b] = [some (.int t), some (.int b), none] from rfl]
 refine ZaR fun B hB => ?_
 refine ZcK fun A hA C hC => ?_
 walk_at "rd"
 simp only [Zbu]
 walk_at "rd"
 refine ⟨Zc7 _, ?_⟩
 rw [if_neg (by simp [isW])]
 refine ⟨Zc7 _, ?_⟩
 rw [if_neg (by simp [isW])]
 subst hC
 walk_at "rd"
 subst hB
 try dsimp only
 refine ZaR fun B hB => ?_
 refine ZcK fun A hA C hC => ?_
 walk_at "rd"
 refine Ze9 (fun c => absurd c hb0) (fun c => ?_)
 subst hC
 walk_at "rd"
 subst hB
 try dsimp only
 walk_at "rd"
 simp only [ZdK]
 walk_at "rd"
 have hne := ZfP (t := t) c
 have hlog : (ZbM t b).natAbs.log2 < 9000 := by rw [ZgZ]; exact ZbW (ZaN (Nat.lt_of_le_of_lt (Zeq c) hz) (by omega)) (by omega)
 have fin : ∀ (p : Addr) (H2 : Hp), H p = none → Same H H2 → H2 p = some (.tup [.int (t.fdiv (ZbM t b)), .int (b.fdiv (ZbM t b))]) → Q (.ref p) H2 := fun p H2 _ hs e => q _ _ hs ⟨p, rfl, by
  rw [Zb4 (Zbv t b), Zb4 (Za5 t b), (ZbJ c).1, (ZbJ (t := t) c).2] at e
  exact e⟩
 refine Ze9 (fun cb => ?_) (fun cb => ?_)
 ·have e : ZbM t b = -(Int.gcd t b : Int) := by unfold ZbM; rw [if_pos cb]
  rw [e] at hne hlog fin
  exact ⟨hne, hlog, hne, hlog, fin⟩
 ·have e : ZbM t b = (Int.gcd t b : Int) := by unfold ZbM; rw [if_neg cb]
  rw [e] at hne hlog fin
  exact ⟨hne, hlog, hne, hlog, fin⟩
end
theorem ZaP {n : Nat} {q : Rat} (h : SzQ n q) : (q.den : Int).natAbs < 2 ^ n := by simpa using h.2
def Zfa (qs : List Rat) (i : Nat) : Rat := (qs.take i).foldl (· + ·) 0
theorem ZcN {qs : List Rat} {i : Nat} {q : Rat} (h : qs[i]? = some q) : Zfa qs (i + 1) = Zfa qs i + q := by
 unfold Zfa
 rw [List.take_add_one, h, List.foldl_append]
 rfl
def RatsV (H : Hp) (xs : List V) (qs : List Rat) : Prop := xs.length = qs.length ∧ ∀ (i : Nat) x q, xs[i]? = some x → qs[i]? = some q → RatV H x q
theorem Zlv {H : Hp} : RatsV H [] [] := ⟨rfl, fun i x q h _ => by simp at h⟩
theorem Zc9 {n : Nat} (h : n ≠ 0) : SzQ n 0 := ⟨Nat.two_pow_pos n, Nat.one_lt_two_pow h⟩
theorem SzQ.add {n m k : Nat} {p q : Rat} (hp : SzQ n p) (hq : SzQ m q) (h : n + m + 1 ≤ k) : SzQ k (p + q) := by
 rw [Zet]
 refine SzQ.mono (SzQ.of (n := n + m + 1) (Zey p q) (ZhS (Zbe hp.1 (ZaP hq)) (Zbe hq.1 (ZaP hp)) (by omega) (by omega)) (ZaN (Zbe (ZaP hp) (ZaP hq)) (by omega))) h
def Zhs (a b : Nat) : Nat := a / Nat.gcd a b * b
theorem lcmN_eq {a b : Nat} (ha : 0 < a) : ∃ c d, a = Nat.gcd a b * c ∧ b = Nat.gcd a b * d ∧ Zhs a b = Nat.gcd a b * c * d := by
 have hg : 0 < Nat.gcd a b := Nat.gcd_pos_of_pos_left _ ha
 obtain ⟨c, hc⟩ := Nat.gcd_dvd_left a b
 obtain ⟨d, hd⟩ := Nat.gcd_dvd_right a b
 refine ⟨c, d, hc, hd, ?_⟩
 unfold Zhs
 have e : a / Nat.gcd a b = c := Nat.div_eq_of_eq_mul_right hg hc
 rw [e]
 conv => lhs; rw [hd]
 rw [← Nat.mul_assoc, Nat.mul_comm c]
theorem Zio {a b : Nat} (ha : 0 < a) : a ∣ Zhs a b := by
 obtain ⟨c, d, h1, h2, h3⟩ := lcmN_eq (b := b) ha
 rw [h3]
 conv => lhs; rw [h1]
 exact Nat.dvd_mul_right _ _
theorem ZhN {a b : Nat} (ha : 0 < a) : b ∣ Zhs a b := by unfold Zhs; exact Nat.dvd_mul_left _ _
theorem ZgE {a b : Nat} (ha : 0 < a) (hb : 0 < b) : 0 < Zhs a b := Nat.mul_pos (Nat.div_pos (Nat.le_of_dvd ha (Nat.gcd_dvd_left a b)) (Nat.gcd_pos_of_pos_left _ ha)) hb
def Zg3 (qs : List Rat) (i : Nat) : Nat := (qs.take i).foldl (fun b q => Zhs b q.den) 1
theorem ZdS {qs : List Rat} {i : Nat} {q : Rat} (h : qs[i]? = some q) : Zg3 qs (i + 1) = Zhs (Zg3 qs i) q.den := by
 unfold Zg3
 rw [List.take_add_one, h, List.foldl_append]
 rfl
theorem ZeO {qs : List Rat} {n : Nat} (hz : ∀ (i : Nat) q, qs[i]? = some q → SzQ n q) : ∀ i, i ≤ qs.length → 0 < Zg3 qs i ∧ Zg3 qs i ≤ 2 ^ (n * i) ∧ ∀ (j : Nat) q, j < i → qs[j]? = some q → q.den ∣ Zg3 qs i
 | 0, _ => ⟨Nat.one_pos, Nat.one_le_two_pow, fun j q h => absurd h (Nat.not_lt_zero j)⟩
 | i + 1, h => by
  obtain ⟨h1, h2, h3⟩ := ZeO hz i (Nat.le_of_lt h)
  have hq := List.getElem?_eq_getElem h
  rw [ZdS hq]
  refine ⟨ZgE h1 qs[i].den_pos, ?_, fun j q hj hq2 => ?_⟩
  ·unfold Zhs
   refine Nat.le_trans (Nat.mul_le_mul (Nat.le_trans (Nat.div_le_self _ _) h2) (Nat.le_of_lt (hz i _ hq).2)) ?_
   rw [← Nat.pow_add, Nat.mul_succ]
   exact Nat.le_refl _
  ·by_cases c : j = i
   ·subst c
    rw [hq] at hq2
    cases hq2
    exact ZhN h1
   ·exact Nat.dvd_trans (h3 j q (by omega) hq2) (Zio h1)
def LcOk (qs : List Rat) : Prop := (∀ (i : Nat) q, qs[i]? = some q → SzQ 4000 q) ∧ ∀ i, i ≤ qs.length → Zg3 qs i ≤ 2 ^ 4000
theorem lcOk_of {qs : List Rat} {n : Nat} (hz : ∀ (i : Nat) q, qs[i]? = some q → SzQ n q) (hn : n * qs.length ≤ 4000) : LcOk qs :=
 ⟨fun i q h => (hz i q h).mono (Nat.le_trans (Nat.le_mul_of_pos_right _ (Nat.lt_of_le_of_lt (Nat.zero_le _) (List.getElem?_eq_some_iff.mp h).1)) hn), fun i hi => Nat.le_trans (ZeO hz i hi).2.1 (Nat.pow_le_pow_right (by decide) (Nat.le_trans (Nat.mul_le_mul_left _ hi) hn))⟩
def Zd5 (B : Nat) (q : Rat) : Int := q.num * ((B : Int) / (q.den : Int))
theorem ZdT {B : Nat} {q : Rat} (hB : 0 < B) (h : q.den ∣ B) : Rat.divInt (Zd5 B q) (B : Int) = q := by
 obtain ⟨c, rfl⟩ := h
 have hd := q.den_pos
 have hc : (c : Int) ≠ 0 := by
  intro z
  have : c = 0 := by omega
  rw [this] at hB
  simp at hB
 unfold Zd5
 rw [Int.natCast_mul, Int.mul_ediv_cancel_left _ (by omega), Rat.divInt_mul_right hc]
 exact Rat.num_divInt_den q
theorem ZeP {a b c : Int} (h : c ≠ 0) : Rat.divInt a c + Rat.divInt b c = Rat.divInt (a + b) c := by
 rw [Rat.divInt_add_divInt _ _ h h, ← Int.add_mul, Rat.divInt_mul_right h]
theorem Zg2 {qs : List Rat} {B : Nat} (hB : 0 < B) (hd : ∀ (j : Nat) q, qs[j]? = some q → q.den ∣ B) : ∀ i, i ≤ qs.length → Zfa qs i = Rat.divInt (((qs.take i).map (Zd5 B)).sum) (B : Int)
 | 0, _ => by
  show (0 : Rat) = Rat.divInt 0 (B : Int)
  rw [Rat.zero_divInt]
 | i + 1, h => by
  have hq := List.getElem?_eq_getElem (show i < qs.length from h)
  rw [ZcN hq, Zg2 hB hd i (Nat.le_of_lt h), List.take_add_one, hq, List.map_append, List.sum_append]
  conv => lhs; rw [← ZdT hB (hd i _ hq)]
  rw [ZeP (by omega)]
  simp
def ZiD : Sp := fun vs H Q _ => ∃ a b : Nat, vs = [.int a, .int b] ∧ 0 < a ∧ 0 < b ∧ a ≤ 2 ^ 4000 ∧ b ≤ 2 ^ 4000 ∧ Q (.int (Zhs a b : Nat)) H
def Zfb (K : PySem.W.Frag) : Sp := fun vs H Q _ => ∃ (a : Addr) (xs : List V) (qs : List Rat), vs = [.ref a] ∧ SqL K H a xs ∧ RatsV H xs qs ∧ LcOk qs ∧ Q (.int (Zg3 qs qs.length : Nat)) H
def Zj2 : Sp := fun vs H Q _ => ∃ (x : V) (q : Rat) (B : Nat), vs = [x, .int B] ∧ RatV H x q ∧ SzQ 4000 q ∧ B ≤ 2 ^ 4000 ∧ Q (.int (Zd5 B q)) H
def Zdr (K : PySem.W.Frag) : Sp := fun vs H Q _ => ∃ (a : Addr) (xs : List V) (qs : List Rat), vs = [.ref a] ∧ SqL K H a xs ∧ RatsV H xs qs ∧ LcOk qs ∧ qs.length ≤ 1000 ∧ ∀ r H', Same H H' → RatV H' r (Zfa qs qs.length) → Q r H'
theorem Zfd {a n : Nat} (h : a ≤ 2 ^ n) : ((a : Nat) : Int).natAbs < 2 ^ (n + 1) := by
 rw [Int.natAbs_natCast, Nat.pow_succ]
 have := Nat.two_pow_pos n
 omega
section
variable {P : Program} {w : World} {K : PySem.W.Frag} {mg : Str → Option Value} {base : Heap} {f : Addr} {fd : FuncData}
theorem ok_lcm (F : Fun K "least_multiple" "least_multiple" ZaH f fd) (F_greatest_divisor : Fn P w K mg base CX0 1 "greatest_divisor" ["one", "other"] ZdK) : FnOk P w K mg base CX0 2 f fd ["one", "other"] ZiD := by
 refine okQ F Zc1 (fun vs H Q E h => ?_) (fun cdv A outer s H vs Q E hr h => ?_)
 ·obtain ⟨a, b, rfl, _⟩ := h; rfl
 obtain ⟨a, b, rfl, ha, hb, za, zb, q⟩ := h
 refine ⟨_, (Zai (Zay (Zbi (ZcZ (q_v 0) (ZaY F_greatest_divisor hr (by decide) rfl (a_c (q_v 0) (a_c (q_v 1) Zab)))) (q_v 1)))), ?_⟩
 rw [show Zav ["one", "other"] [.int a, .int b] = [some (.int a), some (.int b)] from rfl]
 walk_at "rd"
 simp only [ZdK]
 walk_at "rd"
 have eg : Int.gcd (a : Int) (b : Int) = Nat.gcd a b := rfl
 have hg : 0 < Nat.gcd a b := Nat.gcd_pos_of_pos_left _ ha
 have hga : Nat.gcd a b ≤ a := Nat.le_of_dvd ha (Nat.gcd_dvd_left a b)
 have ef : (a : Int).fdiv (Int.gcd (a : Int) (b : Int) : Int) = ((a / Nat.gcd a b : Nat) : Int) := by
  rw [eg, Int.fdiv_eq_ediv_of_nonneg _ (by omega)]
  rfl
 refine ⟨by rw [eg]; omega, ?_, ?_, ?_⟩
 ·rw [eg]
  exact ZbW (ZaN (Zfd (Nat.le_trans hga za)) (by decide)) (by decide)
 ·rw [ef]
  exact Zcj (Zfd (Nat.le_trans (Nat.div_le_self _ _) za)) (Zfd zb) (by decide)
 ·rw [ef, ← Int.natCast_mul]
  exact q
theorem forL {a : Addr} {xs : List V} {g : TG} {tb : TS} {D : Ends} {σ : St} {H : Hp} {te : TE} (hv : ∀ R : V → Hp → Prop, R (.ref a) H → te σ H R) (hS : SqL K H a xs) (Pv : Nat → St → Hp → Prop) (h0 : Pv 0 σ H) (hl : ∀ i σ H, i ≤ xs.length → Pv i σ H → SqL K H a xs)
  (hs : ∀ i x σ H, xs[i]? = some x → Pv i σ H → g x σ H fun σ2 H2 => tb { D with nx := Pv (i + 1), ct := Pv (i + 1), bk := D.nx } σ2 H2) (hd : ∀ σ H, Pv xs.length σ H → D.nx σ H) : ZkS (Zeh K te) g tb D σ H :=
 hv _ ⟨a, rfl, ⟨xs, hS⟩, ZgQ Pv h0 hl hs hd⟩
def Pcb (a : Addr) (qs : List Rat) (H0 : Hp) (i : Nat) (σ : St) (H : Hp) : Prop := H = H0 ∧ ∃ o, σ = [some (.ref a), some (.int (Zg3 qs i : Nat)), o]
theorem Zjm (F : Fun K "common_bottom" "common_bottom" ZaS f fd) (F_least_multiple : Fn P w K mg base CX0 2 "least_multiple" ["one", "other"] ZiD) : FnOk P w K mg base CX0 3 f fd ["some"] (Zfb K) := by
 refine okQ F sc_common_bottom (fun vs H Q E h => ?_) (fun cdv A outer s H vs Q E hr h => ?_)
 ·obtain ⟨a, xs, qs, rfl, _⟩ := h; rfl
 obtain ⟨a, xs, qs, rfl, hS, hR, hz, q⟩ := h
 refine ⟨_, (Zac (Zap 1 sc_common_bottom.nd Zad)
   (Zac (ZbQ PassesOwn.never (Zbm (q_v 0)) (Zar 2 sc_common_bottom.nd) (Zai (Zap 1 sc_common_bottom.nd (ZaY F_least_multiple hr (by decide) rfl (a_c (q_v 1) (a_c (ZaJ (q_v 2) Zad) Zab))))))
   (Zai (Zay (q_v 1))))), ?_⟩
 rw [show Zav ["some", "bottom", "one"] [.ref a] = [some (.ref a), none, none] from rfl]
 walk_at "rd"
 refine forL (xs := xs) (fun R h => by first | exact ⟨_, rfl, h⟩ | (walk_at "rd"; exact h)) hS (Pcb a qs H) ⟨rfl, _, rfl⟩ (fun i σ H' _ h => by rw [h.1]; exact hS) (fun i x σ H' hx h => ?_) (fun σ H' h => ?_)
 ·obtain ⟨rfl, o, rfl⟩ := h
  have hi : i < qs.length := by rw [← hR.1]; exact (List.getElem?_eq_some_iff.mp hx).1
  have hq := List.getElem?_eq_getElem hi
  obtain ⟨p, rfl, hp⟩ := hR.2 _ _ _ hx hq
  obtain ⟨h1, _, _⟩ := ZeO hz.1 i (Nat.le_of_lt hi)
  have h2 := hz.2 i (Nat.le_of_lt hi)
  walk_at "rd"
  simp only [ZiD]
  walk_at "rd"
  refine ⟨_, hp, _, rfl, Zg3 qs i, rfl, qs[i].den, rfl, h1, qs[i].den_pos, h2, Nat.le_of_lt (hz.1 i _ hq).2, rfl, some (.ref p), by rw [ZdS hq]⟩
 ·obtain ⟨rfl, o, rfl⟩ := h
  rw [hR.1]
  walk_at "rd"
  exact q
theorem ok_top (F : Fun K "top_over" "top_over" Zbw f fd) : FnOk P w K mg base CX0 1 f fd ["one", "bottom"] Zj2 := by
 refine okQ F Zgb (fun vs H Q E h => ?_) (fun cdv A outer s H vs Q E hr h => ?_)
 ·obtain ⟨x, q, B, rfl, _⟩ := h; rfl
 obtain ⟨x, t, B, rfl, ⟨p, rfl, hp⟩, z, zB, q⟩ := h
 refine ⟨_, (Zai (Zay (Zbi (ZaJ (q_v 0) Zad) (ZcZ (q_v 1) (ZaJ (q_v 0) Zad))))), ?_⟩
 rw [show Zav ["one", "bottom"] [.ref p, .int B] = [some (.ref p), some (.int B)] from rfl]
 walk_at "rd"
 simp only [hp]
 walk_at "rd"
 have hd := t.den_pos
 have ef : (B : Int).fdiv (t.den : Int) = (B : Int) / (t.den : Int) := Int.fdiv_eq_ediv_of_nonneg _ (by omega)
 have en : (B : Int) / (t.den : Int) = ((B / t.den : Nat) : Int) := rfl
 refine ⟨by omega, ZbW (ZaN (ZaP z) (by decide)) (by decide), ?_, ?_⟩
 ·rw [ef, en]
  exact Zcj z.1 (Zfd (Nat.le_trans (Nat.div_le_self _ _) zB)) (by decide)
 ·rw [ef]
  exact q
theorem Zky (F : Fun K "total_of" "total_of" ZbF f fd) (n_sum : mg "sum" = none) (F_common_bottom : Fn P w K mg base CX0 3 "common_bottom" ["some"] (Zfb K)) (F_top_over : Fn P w K mg base CX0 1 "top_over" ["one", "bottom"] Zj2)
  (F_ratio : Fn P w K mg base CX0 2 "ratio" ["top", "bottom"] Zb0) : FnOk P w K mg base CX0 4 f fd ["some"] (Zdr K) := by
 refine okQ F sc_total_of (fun vs H Q E h => ?_) (fun cdv A outer s H vs Q E hr h => ?_)
 ·obtain ⟨a, xs, qs, rfl, _⟩ := h; rfl
 obtain ⟨a, xs, qs, rfl, hS, hR, hz, hlen, q⟩ := h
 refine ⟨_, (Zac (Zap 1 sc_total_of.nd (ZaY F_common_bottom hr (by decide) rfl (a_c (q_v 0) Zab)))
   (Zai (Zay (ZaY F_ratio hr (by decide) rfl (a_c (Zjk rfl n_sum (a_c (Zen (Zji ["one"] [1] ["bottom"]) (Zbm (q_v 0)) (by exact fun s H fp => (Zar 0 (show List.Nodup (["one", "bottom"] : List Str) from by decide +kernel))) (by exact fun s H fp => (ZaY F_top_over hr (by decide) rfl (a_c (q_v 0) (a_c (q_v 1) Zab))))) Zab)) (a_c (q_v 1) Zab)))))), ?_⟩
 rw [show Zav ["some", "bottom"] [.ref a] = [some (.ref a), none] from rfl]
 refine ZaR fun R0 hR0 => ?_
 walk_at "rd"
 refine ⟨a, xs, qs, rfl, hS, hR, hz, ?_⟩
 obtain ⟨b1, b2, b3⟩ := ZeO hz.1 qs.length (Nat.le_refl _)
 have b4 := hz.2 _ (Nat.le_refl _)
 have b5 : ∀ (j : Nat) t, qs[j]? = some t → t.den ∣ Zg3 qs qs.length := fun j t h => b3 j t (List.getElem?_eq_some_iff.mp h).1 h
 generalize Zg3 qs qs.length = B at b1 b2 b3 b4 b5
 subst hR0
 try dsimp only
 walk_at "rd"
 simp only [Zc8, Zeh]
 walk_at "rd"
 refine ⟨⟨_, hS⟩, ?_⟩
 rw [show ZbK [some (V.ref a), some (V.int (B : Int))] [1] = [some (V.int (B : Int))] from rfl]
 unfold Zko
 refine Zdv (xs := xs) (fun acc i ys H' => Same H H' ∧ H' acc = some (.lst ys) ∧ ys = ((qs.take i).map (Zd5 B)).map V.int ∧ i ≤ qs.length)
  (fun acc H2 hn sm e => ⟨sm, e, rfl, Nat.zero_le _⟩) (fun acc i ys H2 hn2 ⟨sm, e, ey, hi⟩ => ⟨e, ?_, sm.seq hS⟩) (fun acc i y ys H2 os hn2 hi hP ol => ?_) (fun acc ys H2 hn2 hP => ?_)
 ·rw [ey, List.length_map, List.length_map, List.length_take]
  omega
 ·obtain ⟨sm, e, ey, _⟩ := hP
  obtain ⟨o, rfl⟩ : ∃ o, os = [o] := by match os, ol with | [o], _ => exact ⟨o, rfl⟩
  have hil : i < qs.length := by rw [← hR.1]; exact (List.getElem?_eq_some_iff.mp hi).1
  have hq := List.getElem?_eq_getElem hil
  walk_at "rd"
  refine ⟨[some y], rfl, rfl, ?_⟩
  simp only [tYes]
  walk_at "rd"
  simp only [Zj2]
  walk_at "rd"
  refine ⟨qs[i], B, rfl, (hR.2 _ _ _ hi hq).same sm, hz.1 i _ hq, b4, e, Zam hn2 sm, upd_same, ?_, hil⟩
  rw [ey, List.take_add_one, hq, List.map_append, List.map_append]
  rfl
 ·obtain ⟨sm, e, ey, _⟩ := hP
  rw [hR.1, List.take_length] at ey
  rw [ey] at e
  walk_at "rd"
  refine ⟨_, e, ?_⟩
  simp only [Zb0]
  walk_at "rd"
  refine ⟨Big.of (Zfd b4) (by decide), by omega, fun r H' hs v => q r H' (sm.trans hs) ?_⟩
  rw [Zg2 b1 b5 _ (Nat.le_refl _), List.take_length]
  exact v
end
section
variable {P : Program} {w : World} {K : PySem.W.Frag} {mg : Str → Option Value} {base : Heap} {f : Addr} {fd : FuncData}
theorem num_nonneg {t b : Int} (ht : 0 ≤ t) (hb : 0 < b) : 0 ≤ (Rat.divInt t b).num := by
 rw [← (Zd8 hb).1]
 exact Int.fdiv_nonneg ht (by omega)
def RoadV (H : Hp) (x : V) (r : Nat × Rat) : Prop := ∃ p y, x = .ref p ∧ H p = some (.tup [.int r.1, y]) ∧ RatV H y r.2
def RoadsV (H : Hp) (xs : List V) (rs : List (Nat × Rat)) : Prop := xs.length = rs.length ∧ ∀ (i : Nat) x r, xs[i]? = some x → rs[i]? = some r → RoadV H x r
def Zcx (rs : List (Nat × Rat)) : Prop := ∃ rank : Nat → Nat, rank 0 = 0 ∧ (∀ v, rank v ≤ rs.length) ∧ ∀ (k : Nat) r, rs[k]? = some r → r.1 ≤ rs.length ∧ rank r.1 < rank (k + 1)
def ZeR (K : PySem.W.Frag) : Sp := fun vs H Q _ => ∃ (a : Addr) (ns : List Int) (m : Int), vs = [.ref a, .int m] ∧ SqL K H a (ns.map V.int) ∧ 0 ≤ m ∧ m < 20 ∧ ∀ p H' xs rs, H p = none → Same H H' → H' p = some (.lst xs) → RoadsV H' xs rs → Zcx rs → rs.length ≤ 20 → (∀ r ∈ rs, SzQ 110 r.2 ∧ 0 ≤ r.2.num) → Q (.ref p) H'
def ZiG (lo : Int) (n : Nat) : List Int := (List.range n).map fun k : Nat => lo + (k : Int)
theorem Ze6 {lo : Int} {n : Nat} : (ZiG lo n).length = n := by simp [ZiG]
theorem Zk2 {lo hi : Int} : rngL lo hi = (ZiG lo (hi - lo).toNat).map V.int := by simp [rngL, ZiG]
theorem ZgY {lo : Int} {n : Nat} {x : Int} (h : x ∈ ZiG lo n) : lo ≤ x ∧ x < lo + n := by
 obtain ⟨k, hk, e⟩ := List.mem_map.mp h
 have := List.mem_range.mp hk
 omega
theorem Zel {lo : Int} {n : Nat} : (ZiG lo n).Nodup := by
 refine List.Pairwise.map _ (fun a b h => ?_) List.nodup_range
 intro e
 exact h (by omega)
theorem ZgJ {n i : Nat} (h : i < n) : ixN n (i : Int) = some i := by
 unfold ixN
 simp
 omega
def Pr (H0 : Hp) (a p pn : Addr) (m c n : Int) (b : Bool) (zs : List V) (i : Nat) (σ : St) (H : Hp) : Prop := ∃ (o1 o2 o3 : Option V) (ts : List Int), σ = [some (.ref a), some (.int m), some (.int c), some (.int n), some (.bl b), some (.ref p), o1, o2, o3, none, none, none] ∧
 Same H0 H ∧ H p = some (.lst (ts.map V.int)) ∧ H pn = some (.lst zs) ∧ ts.Perm (ZiG 1 n.toNat)
theorem Pr.at {H0 : Hp} {a p pn : Addr} {m c n : Int} {b : Bool} {zs : List V} {i : Nat} {σ : St} {H : Hp} (h : Pr H0 a p pn m c n b zs i σ H) : SqL K H pn zs := let ⟨_, _, _, _, _, _, _, e, _⟩ := h; .of e
def Laid (H : Hp) (ts : List Int) (ys : List V) (j : Nat) : Prop := ∃ (k : Nat) (x : V) (r : Nat × Rat), ts[j]? = some ((k : Int) + 1) ∧ ys[k]? = some x ∧ RoadV H x r ∧ SzQ 110 r.2 ∧ 0 ≤ r.2.num ∧ (r.1 = 0 ∨ ∃ j', j' < j ∧ ts[j']? = some (r.1 : Int))
def Pq (H0 : Hp) (a p acc pp pn : Addr) (m c n : Int) (b : Bool) (ts ps : List Int) (zs : List V) (i : Nat) (σ : St) (H : Hp) : Prop := ∃ (o1 o2 o3 o4 : Option V) (ys : List V), σ = [some (.ref a), some (.int m), some (.int c), some (.int n), some (.bl b), some (.ref p), o1, o2, o3, some (.ref acc), some (.ref pp), o4] ∧
 Same H0 H ∧ H p = some (.lst (ts.map V.int)) ∧ H pp = some (.lst (ps.map V.int)) ∧ H pn = some (.lst zs) ∧ H acc = some (.lst ys) ∧ (ys.length : Int) = n ∧ ∀ j, j < i → Laid H ts ys j
theorem Pq.at {H0 : Hp} {a p acc pp pn : Addr} {m c n : Int} {b : Bool} {ts ps : List Int} {zs : List V} {i : Nat} {σ : St} {H : Hp} (h : Pq H0 a p acc pp pn m c n b ts ps zs i σ H) : SqL K H pn zs := let ⟨_, _, _, _, _, _, _, _, _, e, _⟩ := h; .of e
theorem RoadV.same {H H' : Hp} {x : V} {r : Nat × Rat} (h : RoadV H x r) (s : Same H H') : RoadV H' x r := let ⟨p, y, e, h1, h2⟩ := h; ⟨p, y, e, s _ _ h1, h2.same s⟩
theorem RoadV.upd {H : Hp} {x : V} {r : Nat × Rat} {l : Addr} {ys : List V} {o : HO} (h : RoadV H x r) (hl : H l = some (.lst ys)) : RoadV (upd H l o) x r := by
 obtain ⟨p, y, e, h1, z, e2, h3⟩ := h
 exact ⟨p, y, e, by rw [Zae (ZbI h1 hl (by intro z; cases z))]; exact h1, z, e2, by rw [Zae (ZbI h3 hl (by intro z; cases z))]; exact h3⟩
theorem Zgc {α : Type} [Inhabited α] {n : Nat} {P : Nat → α → Prop} (h : ∀ k, k < n → ∃ r, P k r) : ∃ rs : List α, rs.length = n ∧ ∀ (k : Nat) r, rs[k]? = some r → P k r := by
 induction n with
 | zero => exact ⟨[], rfl, fun k r e => by simp at e⟩
 | succ n ih =>
  obtain ⟨rs, hl, hr⟩ := ih fun k hk => h k (by omega)
  obtain ⟨r0, h0⟩ := h n (by omega)
  refine ⟨rs ++ [r0], by simp [hl], fun k r e => ?_⟩
  by_cases hk : k < rs.length
  ·rw [List.getElem?_append_left hk] at e; exact hr k r e
  ·rw [List.getElem?_append_right (by omega)] at e
   have hk2 : k = n := by
    have := (List.getElem?_eq_some_iff.mp e).1
    simp at this; omega
   subst hk2
   simp [hl] at e
   rw [← e]; exact h0
open Classical in
noncomputable def rankOf (ts : List Int) (v : Nat) : Nat := if h : ∃ j : Nat, ts[j]? = some (v : Int) then h.choose + 1 else 0
theorem ZfR {ts : List Int} (hnd : ts.Nodup) {j v : Nat} (h : ts[j]? = some (v : Int)) : rankOf ts v = j + 1 := by
 have hh : ∃ j : Nat, ts[j]? = some (v : Int) := ⟨j, h⟩
 unfold rankOf
 rw [dif_pos hh]
 have e := hh.choose_spec
 have := (List.getElem?_inj (List.getElem?_eq_some_iff.mp e).1 hnd).mp (e.trans h.symm)
 omega
theorem rank_le {ts : List Int} {v : Nat} : rankOf ts v ≤ ts.length := by
 unfold rankOf
 split
 ·rename_i hh
  exact (List.getElem?_eq_some_iff.mp hh.choose_spec).1
 ·exact Nat.zero_le _
theorem Zlk {lo : Int} {n : Nat} {k : Nat} (h : k < n) : lo + (k : Int) ∈ ZiG lo n := List.mem_map.mpr ⟨k, List.mem_range.mpr h, rfl⟩
theorem Zlo {H : Hp} {ts : List Int} {ys : List V} {n : Nat} (hpm : ts.Perm (ZiG 1 n)) (hy : ys.length = n) (h : ∀ j, j < n → Laid H ts ys j) : ∃ rs : List (Nat × Rat), RoadsV H ys rs ∧ Zcx rs ∧ rs.length = n ∧ ∀ r ∈ rs, SzQ 110 r.2 ∧ 0 ≤ r.2.num := by
 have hl : ts.length = n := by rw [hpm.length_eq, Ze6]
 have hnd : ts.Nodup := hpm.nodup_iff.mpr Zel
 have hbd : ∀ x ∈ ts, 1 ≤ x ∧ x ≤ n := fun x hx => by have := ZgY (hpm.mem_iff.mp hx); omega
 obtain ⟨rs, hrl, hr⟩ := Zgc (α := Nat × Rat) (n := n) (P := fun k r => ∃ x, ys[k]? = some x ∧ RoadV H x r ∧ SzQ 110 r.2 ∧ 0 ≤ r.2.num ∧ ∃ j, ts[j]? = some (((k + 1 : Nat)) : Int) ∧ (r.1 = 0 ∨ ∃ j', j' < j ∧ ts[j']? = some (r.1 : Int))) fun k hk => by
  have hm : (1 : Int) + (k : Int) ∈ ts := hpm.mem_iff.mpr (Zlk hk)
  obtain ⟨j, hj⟩ := List.getElem?_of_mem hm
  obtain ⟨k', x, r, g1, g2, g3, g4, g5, g6⟩ := h j (by rw [← hl]; exact (List.getElem?_eq_some_iff.mp hj).1)
  have hkk : k' = k := by rw [hj] at g1; have := Option.some.inj g1; omega
  subst hkk
  exact ⟨r, x, g2, g3, g4, g5, j, by rw [g1]; simp, g6⟩
 have rz : rankOf ts 0 = 0 := by
  unfold rankOf
  rw [dif_neg fun ⟨j, hj⟩ => by have := hbd _ (List.mem_of_getElem? hj); simp at this]
 refine ⟨rs, ⟨by omega, fun i x r h1 h2 => ?_⟩, ⟨rankOf ts, rz, fun v => by rw [hrl, ← hl]; exact rank_le, fun k r h1 => ?_⟩, hrl, fun r hm => ?_⟩
 ·obtain ⟨x', g, g2, _⟩ := hr i r h2
  rw [h1] at g
  cases g
  exact g2
 ·obtain ⟨x', _, _, _, _, j, hj, hc⟩ := hr k r h1
  rcases hc with z | ⟨j', hlt, hj'⟩
  ·exact ⟨by omega, by rw [z, rz, ZfR hnd hj]; omega⟩
  ·have := hbd _ (List.mem_of_getElem? hj')
   exact ⟨by omega, by rw [ZfR hnd hj', ZfR hnd hj]; omega⟩
 ·obtain ⟨k, hk⟩ := List.getElem?_of_mem hm
  obtain ⟨_, _, _, g4, g5, _⟩ := hr k r hk
  exact ⟨g4, g5⟩
theorem cxK {CX : CXT} {N : List Str} {qual : Str} {scope : Scope} {cd : Value} {A : Around} {outer : List Env} {s : Shared} {H : Hp} {E : XK} : (Zh3 CX P w K mg base N qual scope f cd A outer s H E).K = K := rfl
inductive WayR (rs : List (Nat × Rat)) : Nat → List Nat → Prop where
 | nil : WayR rs 0 []
 | cons {k : Nat} {r : Nat × Rat} {w : List Nat} (h : rs[k]? = some r) (hw : WayR rs r.1 w) : WayR rs (k + 1) ((k + 1) :: w)
theorem WayR.uniq {rs : List (Nat × Rat)} {k : Nat} {w : List Nat} (h : WayR rs k w) : ∀ {w' : List Nat}, WayR rs k w' → w' = w := by
 induction h with
 | nil => intro w' h'; cases h'; rfl
 | cons h _ ih =>
  intro w' h'
  cases h' with
  | cons h2 hw2 =>
   rw [h] at h2
   cases h2
   rw [ih hw2]
theorem Zcn {rs : List (Nat × Rat)} (T : Zcx rs) {k : Nat} (hk : k ≤ rs.length) : ∃ w, WayR rs k w ∧ w.length ≤ rs.length := by
 obtain ⟨rank, r0, hb, hr⟩ := T
 have key : ∀ m k, k ≤ rs.length → rank k ≤ m → ∃ w, WayR rs k w ∧ w.length ≤ rank k := by
  intro m
  induction m with
  | zero =>
   intro k hk hm
   cases k with
   | zero => exact ⟨[], .nil, Nat.zero_le _⟩
   | succ j =>
    have h2 := (hr j _ (List.getElem?_eq_getElem (l := rs) (i := j) (by omega))).2
    omega
  | succ m ih =>
   intro k hk hm
   cases k with
   | zero => exact ⟨[], .nil, Nat.zero_le _⟩
   | succ j =>
    have e := List.getElem?_eq_getElem (l := rs) (i := j) (by omega)
    obtain ⟨h1, h2⟩ := hr j _ e
    obtain ⟨w, hw, hl⟩ := ih rs[j].1 h1 (by omega)
    exact ⟨(j + 1) :: w, .cons e hw, by simp; omega⟩
 obtain ⟨w, hw, hl⟩ := key _ k hk (Nat.le_refl _)
 exact ⟨w, hw, Nat.le_trans hl (hb k)⟩
theorem WayR.mem {rs : List (Nat × Rat)} {k : Nat} {w : List Nat} (h : WayR rs k w) : ∀ x ∈ w, 1 ≤ x ∧ x ≤ rs.length := by
 induction h with
 | nil => intro x hx; cases hx
 | cons h _ ih =>
  intro x hx
  rcases List.mem_cons.mp hx with z | z
  ·have := (List.getElem?_eq_some_iff.mp h).1
   omega
  ·exact ih x z
open Classical in
noncomputable def wayM (rs : List (Nat × Rat)) (k : Nat) : Nat := if h : ∃ w, WayR rs k w then h.choose.length else 0
theorem ZeC {rs : List (Nat × Rat)} {k : Nat} {w : List Nat} (h : WayR rs k w) : wayM rs k = w.length := by
 have hh : ∃ w, WayR rs k w := ⟨w, h⟩
 unfold wayM
 rw [dif_pos hh, h.uniq hh.choose_spec]
def Zbf (w : List Nat) : List V := w.map fun k : Nat => V.int (k : Int)
theorem WayR.zero {rs : List (Nat × Rat)} {w : List Nat} (h : WayR rs 0 w) : w = [] := by cases h; rfl
end
def ZeW : Sp := fun vs H Q _ => ∃ c k : Int, vs = [.int c, .int k] ∧ 0 ≤ k ∧ k < 1000 ∧ ∀ v : Int, Q (.int v) H
def Zbd : Sp := fun vs H Q _ => ∃ c n m : Int, vs = [.int c, .int n, .int m] ∧ 0 ≤ n ∧ n < 1000 ∧ 0 < m ∧ m.natAbs < 2 ^ 300 ∧ ∀ p H' (xs : List Int), H p = none → Same H H' → H' p = some (.lst (xs.map V.int)) → (xs.length : Int) = n → (∀ x ∈ xs, 0 ≤ x ∧ x < m) → Q (.ref p) H'
def Pn (H0 : Hp) (p : Addr) (c n m : Int) (i : Nat) (σ : St) (H : Hp) : Prop := ∃ (r : Int) (o : Option V) (xs : List Int), σ = [some (.int c), some (.int n), some (.int m), some (.ref p), some (.int r), o] ∧ Same H0 H ∧ H p = some (.lst (xs.map V.int)) ∧ xs.length = i ∧ ∀ x ∈ xs, 0 ≤ x ∧ x < m
section
variable {P : Program} {w : World} {K : PySem.W.Frag} {mg : Str → Option Value} {base : Heap} {f : Addr} {fd : FuncData}
theorem ZlR (F : Fun K "_law_mixed" "_law_mixed" Zbj f fd) : FnOk P w K mg base CX0 1 f fd ["_law_cell", "_law_k"] ZeW := by
 refine okQ F ZfK (fun vs H Q E h => ?_) (fun cdv A outer s H vs Q E hr h => ?_)
 ·obtain ⟨c, k, rfl, _⟩ := h; rfl
 obtain ⟨c, k, rfl, h1, h2, q⟩ := h
 refine ⟨_, (Zai (Zay (ZbG (q_mul (ZbG (Za7 (q_v 0) (ZhT Zad Zad)) (Zbi (q_v 1) (q_v 1))) Zad) (q_mul (ZbG (q_v 1) Zad) Zad)))), ?_⟩
 rw [show Zav ["_law_cell", "_law_k"] [.int c, .int k] = [some (.int c), some (.int k)] from rfl]
 walk_at "rd"
 exact ⟨Zcj (a := 10) (b := 10) (by omega) (by omega) (by decide), q _⟩
theorem ZhB (F : Fun K "_law_numbers" "_law_numbers" Za4 f fd) (n_range : mg "range" = none) (F_law_mixed : Fn P w K mg base CX0 1 "_law_mixed" ["_law_cell", "_law_k"] ZeW) : FnOk P w K mg base CX0 2 f fd ["_law_cell", "_law_many", "_law_most"] Zbd := by
 refine okQ F sc_law_numbers (fun vs H Q E h => ?_) (fun cdv A outer s H vs Q E hr h => ?_)
 ·obtain ⟨c, n, m, rfl, _⟩ := h; rfl
 obtain ⟨c, n, m, rfl, h1, h2, h3, h4, q⟩ := h
 refine ⟨_, (Zac (Zap 3 sc_law_numbers.nd (Zdc Zab))
   (Zac (Zap 4 sc_law_numbers.nd (q_v 0))
   (Zac (ZbQ PassesOwn.never (ZdY rfl n_range (a_c (q_v 1) Zab)) (Zar 5 sc_law_numbers.nd) (Zai (Zc0 (t_lt (q_v 0) (ZhT Zad Zad)) (Zai (Zbt (ZeM (q_v 3) (a_c (Za7 (ZbH (ZaY F_law_mixed hr (by decide) rfl (a_c (q_v 0) (a_c (q_v 5) Zab))) Zad) (q_v 2)) Zab)))) (Zac (Zbt (ZeM (q_v 3) (a_c (Za7 (q_v 4) (q_v 2)) Zab)))
   (Zai (Zap 4 sc_law_numbers.nd (Zjw (q_v 4) (q_v 2))))))))
   (Zai (Zay (q_v 3)))))), ?_⟩
 rw [show Zav ["_law_cell", "_law_many", "_law_most", "_law_made", "_law_rest", "_law_k"] [.int c, .int n, .int m] = [some (.int c), some (.int n), some (.int m), none, none, none] from rfl]
 walk_at "rd"
 intro p H1 hp s1 e1
 simp only [ZcV]
 walk_at "rd"
 refine ⟨by omega, by omega, ?_⟩
 refine Zd7 (Pn H p c n m) ⟨_, _, [], rfl, s1, e1, rfl, fun x hx => by cases hx⟩ (fun i σ H2 hi hP => ?_) (fun σ H2 hP => ?_)
 ·obtain ⟨r, o, xs, rfl, s2, e2, hl, hx⟩ := hP
  walk_at "rd"
  simp only [ZeW]
  walk_at "rd"
  have step : ∀ r' v : Int, 0 ≤ v → v < m → Pn H p c n m (i + 1) [some (V.int c), some (V.int n), some (V.int m), some (V.ref p), some (V.int r'), some (V.int (i : Int))] (upd H2 p (.lst (xs.map V.int ++ [.int v]))) := fun r' v a b =>
   ⟨r', _, xs ++ [v], rfl, Zam hp s2, by rw [upd_same, List.map_append]; rfl, by simp [hl], fun x hm => by
    rcases List.mem_append.mp hm with z | z
    ·exact hx x z
    ·have z : x = v := by simpa using z
     rw [z]; exact ⟨a, b⟩⟩
  have hlen : (xs.map V.int).length < 1000000 := by rw [List.length_map]; omega
  refine Ze9 (fun _ => ?_) (fun _ => ?_)
  ·exact ⟨⟨_, e2⟩, by omega, by omega, fun v => ⟨h3, _, e2, hlen, step _ _ (Int.emod_nonneg _ (by omega)) (Int.emod_lt_of_pos _ h3)⟩⟩
  ·exact ⟨⟨_, e2⟩, h3, _, e2, hlen, h3, ZbW (ZaN h4 (by omega)) (by omega), step _ _ (Int.emod_nonneg _ (by omega)) (Int.emod_lt_of_pos _ h3)⟩
 ·obtain ⟨r, o, xs, rfl, s2, e2, hl, hx⟩ := hP
  walk_at "rd"
  exact q p H2 xs hp s2 e2 (by omega) hx
def Pl (a b : Int) (H : Hp) (σ : St) (H' : Hp) : Prop := ∃ l m : Int, σ = [some (.int a), some (.int b), some (.int l), some (.int m)] ∧ H' = H ∧ 0 ≤ l ∧ 0 ≤ m ∧ Int.gcd l m = Int.gcd a b
theorem ok_lowT (F : Fun K "_law_low" "_law_low" Zb1 f fd) (n_abs : mg "abs" = none) : FnOk P w K mg base CX0 1 f fd ["_law_top", "_law_bottom"] Zb8 := by
 refine okQ F sc_law_low (fun vs H Q E h => ?_) (fun cdv A outer s H vs Q E hr h => ?_)
 ·obtain ⟨a, b, rfl, _⟩ := h; rfl
 obtain ⟨a, b, rfl, hz, hb, q⟩ := h
 refine ⟨_, (Zac (Zap 2 sc_law_low.nd (q_abs rfl n_abs (a_c (q_v 0) Zab)))
   (Zac (Zap 3 sc_law_low.nd (q_v 1))
   (Zac (ZeU PassesOwn.never (t_gt (q_v 3) Zad) (Zai (s_par 2 3 sc_law_low.nd (a_c (q_v 3) (a_c (Za7 (q_v 2) (q_v 3)) Zab)))))
   (Zai (Zay (ZcH (a_c (ZcZ (q_v 0) (q_v 2)) (a_c (ZcZ (q_v 1) (q_v 2)) Zab)))))))), ?_⟩
 rw [show Zav ["_law_top", "_law_bottom", "_law_one", "_law_other"] [.int a, .int b] = [some (.int a), some (.int b), none, none] from rfl]
 walk_at "rd"
 simp only [Zjz]
 refine Ze8 (Pl a b H) (fun σ _ => (Zla σ 3).toNat) ⟨_, _, rfl, rfl, by omega, by omega, by rw [← ZiX a b, Int.natAbs_of_nonneg (Int.le_of_lt hb)]⟩ ?_
 rintro σ H' ⟨l, m, rfl, rfl, hl, hm, hg⟩
 walk_at "rd"
 refine Ze9 (fun c => ?_) (fun c => ?_)
 ·refine ⟨_, fun σ' H' z => z, c, _, Zd4 c, rfl, m, l % m, rfl, rfl, hm, Int.emod_nonneg _ (by omega), ?_⟩
  rw [ZgI]; exact hg
 ·have e : m = 0 := by omega
  subst e
  have e2 : l = (Int.gcd a b : Int) := by rw [← hg]; simp; omega
  subst e2
  have h1 := Int.gcd_pos_of_ne_zero_right a (Int.ne_of_gt hb)
  have h3 : (Int.gcd a b : Int).natAbs.log2 < 9000 := ZbW (ZaN (Nat.lt_of_le_of_lt (Zeq (Int.ne_of_gt hb)) hz) (by omega)) (by omega)
  refine ⟨by omega, h3, by omega, h3, fun p H' _ hs e => q _ H' hs ⟨p, rfl, ?_⟩⟩
  rw [(Zd8 hb).1, (Zd8 (t := a) hb).2] at e
  exact e
def ZeK : Sp := fun vs H Q _ => ∃ (c : Int) (b : Bool), vs = [.int c, .bl b] ∧ ∀ r H' q, Same H H' → SzQ 110 q → 0 ≤ q.num → RatV H' r q → Q r H'
theorem ZkP (F : Fun K "_law_price_by" "_law_price_by" ZaV f fd) (F_law_low : Fn P w K mg base CX0 1 "_law_low" ["_law_top", "_law_bottom"] Zb8) : FnOk P w K mg base CX0 2 f fd ["_law_number", "_law_wide"] ZeK := by
 refine okQ F Zdz (fun vs H Q E h => ?_) (fun cdv A outer s H vs Q E hr h => ?_)
 ·obtain ⟨c, b, rfl, _⟩ := h; rfl
 obtain ⟨c, b, rfl, q⟩ := h
 refine ⟨_, (Zac (Zc0 (Zcb (q_v 1)) (Zai (Zay (ZaY F_law_low hr (by decide) rfl (a_c (Za7 (q_v 0) (ZhT Zad Zad)) (a_c (ZbG Zad (Za7 (Zjw (q_v 0) (ZhT Zad Zad)) (Zc3 (ZhT Zad Zad) Zad))) Zab))))) Zbs)
   (Zai (Zay (ZaY F_law_low hr (by decide) rfl (a_c (Za7 (q_v 0) Zad) (a_c (ZbG Zad (Za7 (ZbH (q_v 0) Zad) Zad)) Zab)))))), ?_⟩
 rw [show Zav ["_law_number", "_law_wide"] [.int c, .bl b] = [some (.int c), some (.bl b)] from rfl]
 walk_at "rd"
 simp only [Zb8]
 walk_at "rd"
 have fin : ∀ t d : Int, 0 ≤ t → t.natAbs < 2 ^ 110 → 0 < d → d.natAbs < 2 ^ 110 → Big d ∧ 0 < d ∧ ∀ (r : V) (H' : Hp), Same H H' → RatV H' r (Rat.divInt t d) → Q r H' := fun t d h1 h2 h3 h4 =>
  ⟨Big.of h4 (by decide), h3, fun r H' s v => q r H' _ s (SzQ.of (by omega) h2 h4) (num_nonneg h1 h3) v⟩
 refine Ze9 (fun _ => ?_) (fun _ => ?_)
 ·exact ⟨by decide, fin _ _ (by omega) (by omega) (by omega) (by omega)⟩
 ·exact fin _ _ (by omega) (by omega) (by omega) (by omega)
end
section
variable {P : Program} {w : World} {K : PySem.W.Frag} {mg : Str → Option Value} {base : Heap} {f : Addr} {fd : FuncData}
theorem ok_roads (F : Fun K "_law_roads_by" "_law_roads_by" Zat f fd) (n_list : mg "list" = none) (n_range : mg "range" = none) (n_enumerate : mg "enumerate" = none) (n_int : mg "int" = none) (n_min : mg "min" = none)
  (F_law_cell_at : Fn P w K mg base CX0 1 "_law_cell_at" ["_law_script", "_law_k"] (Zb5 K)) (F_law_numbers : Fn P w K mg base CX0 2 "_law_numbers" ["_law_cell", "_law_many", "_law_most"] Zbd) (F_law_price_by : Fn P w K mg base CX0 2 "_law_price_by" ["_law_number", "_law_wide"] ZeK) : FnOk P w K mg base CX0 3 f fd ["_law_script", "_law_most"] (ZeR K) := by
 refine okQ F sc_law_roads_by (fun vs H Q E h => ?_) (fun cdv A outer s H vs Q E hr h => ?_)
 ·obtain ⟨a, ns, m, rfl, _⟩ := h; rfl
 obtain ⟨a, ns, m, rfl, hS, hm0, hm1, q⟩ := h
 obtain ⟨t2, ht2, hr2⟩ : ∃ t, QB (Zh3 CX0 P w K mg base ["_law_script", "_law_most", "_law_head", "_law_many", "_law_wide", "_law_turned", "_law_k", "_law_number", "_law_other", "_law_roads", "_law_prices", "_law_to"] "_law_roads_by" (Zaa Zat) f cdv A outer s H E).nox ((Zaf Zat).drop 6) t ∧ ∀ (c n : Int) (b : Bool) (p : Addr) (o1 o2 o3 : Option V) (ts : List Int) (H1 : Hp), 0 ≤ n → n ≤ 20 → H p = none → Same H H1 → H1 p = some (.lst (ts.map V.int)) → ts.Perm (ZiG 1 n.toNat) →
   t { nx := fun _ H' => Q .non H', rt := Q } [some (.ref a), some (.int m), some (.int c), some (.int n), some (.bl b), some (.ref p), o1, o2, o3, none, none, none] H1 := by
  refine ⟨_, (Zac (Zdx 9 (blk0 ["_law_k"]) (ZdY rfl n_range (a_c (q_v 3) Zab)) (by exact fun s H fp => (Zar 0 (show List.Nodup (["_law_k"] : List Str) from by decide +kernel))) (by exact fun s H fp => (ZcH (a_c Zad (a_c (ZcH (a_c Zad (a_c Zad Zab))) Zab)))) (Zar 9 sc_law_roads_by.nd))
   (Zac (Zap 10 sc_law_roads_by.nd (ZaY F_law_numbers hr (by decide) rfl (a_c (ZaY F_law_cell_at hr (by decide) rfl (a_c (q_v 0) (a_c Zad Zab))) (a_c (q_v 3) (a_c (Zcf (Zdc (a_c Zad (a_c (ZhT Zad Zad) Zab))) (q_int1 rfl n_int (a_c (q_v 4) Zab))) Zab)))))
   (Zac (ZbQ PassesOwn.never (i_enum rfl n_enumerate (a_c (ZaY F_law_numbers hr (by decide) rfl (a_c (ZaY F_law_cell_at hr (by decide) rfl (a_c (q_v 0) (a_c Zad Zab))) (a_c (q_v 3) (a_c Zad Zab)))) Zab)) (Zhh (n := 2) (Zbq (Zar 6 sc_law_roads_by.nd) (Zbq (Zar 7 sc_law_roads_by.nd) Zew))) (Zac (Zap 11 sc_law_roads_by.nd (Zcf (q_cat (Zdc (a_c Zad Zab)) (q_v 5)) (Zc3 (q_v 6) (Za7 (q_v 7) (q_min rfl n_min (a_c (ZbG (q_v 6) Zad) (a_c (ZbG Zad (Za7 (ZbH (q_v 7) Zad) Zad)) Zab)))))))
   (Zai (s_asg (ZcH (a_c (q_v 11) (a_c (ZaY F_law_price_by hr (by decide) rfl (a_c (Zcf (q_v 10) (q_v 6)) (a_c (q_v 4) Zab))) Zab))) (ZkE (q_v 9) (Zc3 (Zcf (q_v 5) (q_v 6)) Zad))))))
   (Zai (Zay (q_v 9)))))), fun c n b p o1 o2 o3 ts H1 hn0 hn1 hp s1 e1 hpm => ?_⟩
  walk_at "rd"
  simp only [Zc8, ZhC, cxK]
  walk_at "rd"
  refine ⟨by omega, by omega, ?_⟩
  refine Zjj (fun acc i ys H' => H acc = none ∧ Same H H' ∧ p ≠ acc ∧ H' p = some (.lst (ts.map V.int)) ∧ H' acc = some (.lst ys) ∧ ys.length = i ∧ i ≤ 20) (fun acc H2 hn sm e => ⟨s1.free hn, s1.trans sm, fun z => ?_, sm _ _ e1, e, rfl, by omega⟩)
   (fun acc i ys H2 h => ⟨h.2.2.2.2.1, by omega⟩) (fun acc i ys H2 os hn hi h ol => ?_) (fun acc ys H2 hn h => ?_)
  ·rw [← z, e1] at hn; cases hn
  ·obtain ⟨h0, sm, hne, hp2, ha, hy, _⟩ := h
   obtain ⟨o, rfl⟩ : ∃ o, os = [o] := List.length_eq_one_iff.mp ol
   walk_at "rd"
   exact ⟨[_], rfl, rfl, fun p1 H3 _ s3 _ p2 H4 _ s4 _ => ⟨s4 _ _ (s3 _ _ ha), h0, Zam h0 (sm.trans (s3.trans s4)), hne, by rw [Zae hne]; exact s4 _ _ (s3 _ _ hp2), upd_same, by simp [hy], by omega⟩⟩
  ·obtain ⟨h0, sm, hne, hp2, ha, hy, _⟩ := h
   simp only [Zb5, Zbd, ZfF]
   walk_at "rd"
   obtain ⟨mo, hmo, hat⟩ : ∃ mo : Int, (mo = 78 ∨ mo = 1000000000000000000000000000000000000000000000000000000000000) ∧ atI [V.int 78, V.int 1000000000000000000000000000000000000000000000000000000000000] (if b = true then 1 else 0) = some (.int mo) := by
    cases b
    ·exact ⟨_, .inl rfl, rfl⟩
    ·exact ⟨_, .inr rfl, rfl⟩
   refine ⟨⟨3, rfl⟩, ⟨ns, sm.seq hS⟩, fun pm H3 _ s3 e3 => ⟨_, e3, _, hat, mo, rfl, hn0, by omega, by omega, ZaN (a := 200) (by omega) (by decide), fun pp H4 ps hpp s4 e4 hl4 _ => ?_⟩⟩
   simp only [Zb5, Zbd]
   walk_at "rd"
   refine ⟨⟨2, rfl⟩, ⟨ns, (sm.trans (s3.trans s4)).seq hS⟩, hn0, by omega, ZaN (a := 20) (by decide) (by decide), fun pn H5 xs hpn s5 e5 hl5 hx5 => ?_⟩
   have ha4 := s4 _ _ (s3 _ _ ha)
   have hpa : pp ≠ acc := fun z => by rw [z, s3 _ _ ha] at hpp; cases hpp
   have hna : pn ≠ acc := fun z => by rw [z, ha4] at hpn; cases hpn
   have hl : (ts.length : Int) = n := by rw [hpm.length_eq, Ze6]; omega
   have hbd : ∀ x ∈ ts, 1 ≤ x ∧ x ≤ n := fun x hx => by have := ZgY (hpm.mem_iff.mp hx); omega
   have hnd : ts.Nodup := hpm.nodup_iff.mpr Zel
   refine ZgM (xs := xs.map V.int) (Pq H a p acc pp pn m c n b ts ps (xs.map V.int)) ⟨_, _, _, _, ys, rfl, sm.trans (s3.trans (s4.trans s5)), s5 _ _ (s4 _ _ (s3 _ _ hp2)), s5 _ _ e4, e5, s5 _ _ ha4, by omega, fun j hj => absurd hj (Nat.not_lt_zero j)⟩ (fun i σ H' _ h => h.at) (fun i x σ H6 pb H7 hx hP hb s7 e7 => ?_) (fun σ H6 hP => ?_)
   ·obtain ⟨o1, o2, o3, o4, ys, rfl, sm6, et, ep, en, ea, hyl, hdone⟩ := hP
    have hi : i < xs.length := by have := (List.getElem?_eq_some_iff.mp hx).1; simpa using this
    have hxi : x = .int xs[i] := by rw [List.getElem?_map, List.getElem?_eq_getElem hi] at hx; exact (Option.some.inj hx).symm
    subst hxi
    walk_at "rd"
    simp only [e7, ZeK]
    walk_at "rd"
    have hv := hx5 xs[i] (List.getElem_mem hi)
    have hlt : i < ts.length := by omega
    have hM1 : 0 < (if 1 + xs[i] / 41 % 41 < (i : Int) + 1 then 1 + xs[i] / 41 % 41 else (i : Int) + 1) ∧ (if 1 + xs[i] / 41 % 41 < (i : Int) + 1 then 1 + xs[i] / 41 % 41 else (i : Int) + 1) ≤ (i : Int) + 1 := by split <;> omega
    generalize (if 1 + xs[i] / 41 % 41 < (i : Int) + 1 then 1 + xs[i] / 41 % 41 else (i : Int) + 1) = M at hM1 ⊢
    have hq0 := Int.emod_nonneg xs[i] (b := M) (by omega)
    have hq1 := Int.emod_lt_of_pos xs[i] (b := M) hM1.1
    obtain ⟨e, he⟩ : ∃ e : Nat, (i : Int) - xs[i] % M = (e : Int) := ⟨((i : Int) - xs[i] % M).toNat, by omega⟩
    simp only [he]
    obtain ⟨to, hat2, hto⟩ : ∃ to : Nat, atI ([V.int 0] ++ ts.map V.int) (e : Int) = some (.int (to : Int)) ∧ (to = 0 ∨ ∃ j', j' < i ∧ ts[j']? = some (to : Int)) := by
     cases e with
     | zero => exact ⟨0, ZaE (by simp), .inl rfl⟩
     | succ e =>
      have he' : e < ts.length := by omega
      have hb1 := hbd ts[e] (List.getElem_mem he')
      have h3 : ((ts[e].toNat : Nat) : Int) = ts[e] := Int.toNat_of_nonneg (by omega)
      exact ⟨ts[e].toNat, ZaE (by rw [h3]; simp [he']), .inr ⟨e, by omega, by rw [h3, List.getElem?_eq_getElem he']⟩⟩
    have hbi := hbd ts[i] (List.getElem_mem hlt)
    obtain ⟨k, hk⟩ : ∃ k : Nat, ts[i] = (k : Int) + 1 := ⟨(ts[i] - 1).toNat, by omega⟩
    have hip : i < ps.length := by omega
    refine fun p8 H8 h8 s8 e8 => ⟨_, e8, _, s8 _ _ (s7 _ _ et), Zfn (by simp; omega), fun p9 hp9 => ⟨hM1.1, _, upd_same, _, hat2, _, ZaK hp9 _ _ _ (s8 _ _ (s7 _ _ ep)), .int ps[i], ZaE (by simp [hip]), ⟨_, rfl⟩, fun r H10 qr s10 zq hqn vr p11 H11 h11 s11 e11 => ?_⟩⟩
    have S : Same H6 H11 := s7.trans (s8.trans ((ZaK hp9 _).trans (s10.trans s11)))
    have ea11 := S _ _ ea
    refine ⟨_, S _ _ et, .int ts[i], ZaE (by simp [hlt]), _, rfl, ys, ea11, k, ?_, ?_⟩
    ·rw [hk, Int.add_sub_cancel]; exact ZgJ (by omega)
    ·refine ⟨_, _, _, _, ys.set k (.ref p11), rfl, Zam h0 (sm6.trans S), by rw [Zae hne]; exact S _ _ et, by rw [Zae hpa]; exact S _ _ ep, by rw [Zae hna]; exact S _ _ en, upd_same, by simpa using hyl, fun j hj => ?_⟩
     by_cases hji : j = i
     ·subst hji
      exact ⟨k, .ref p11, (to, qr), by rw [List.getElem?_eq_getElem hlt, hk], List.getElem?_set_self (by omega), RoadV.upd ⟨p11, r, rfl, e11, vr.same s11⟩ ea11, zq, hqn, hto⟩
     ·obtain ⟨k', x, r', g1, g2, g3, g4, g5, g6⟩ := hdone j (by omega)
      have hkk : k ≠ k' := fun z => by
       have g7 : ts[j]? = ts[i]? := by rw [g1, List.getElem?_eq_getElem hlt, hk, z]
       have hjl : j < ts.length := (List.getElem?_eq_some_iff.mp g1).1
       exact hji ((List.getElem?_inj hjl hnd).mp g7)
      exact ⟨k', x, r', g1, by rw [List.getElem?_set_ne hkk]; exact g2, (g3.same S).upd ea11, g4, g5, g6⟩
   ·obtain ⟨o1, o2, o3, o4, ys, rfl, sm6, et, ep, en, ea, hyl, hdone⟩ := hP
    walk_at "rd"
    obtain ⟨rs, hR, hT, hlen, hz⟩ := Zlo (n := n.toNat) hpm (by omega) fun j hj => hdone j (by rw [List.length_map]; omega)
    exact q acc H6 ys rs h0 sm6 ea hR hT (by omega) hz
 obtain ⟨t1, ht1, hr1⟩ : ∃ t, QB (Zh3 CX0 P w K mg base ["_law_script", "_law_most", "_law_head", "_law_many", "_law_wide", "_law_turned", "_law_k", "_law_number", "_law_other", "_law_roads", "_law_prices", "_law_to"] "_law_roads_by" (Zaa Zat) f cdv A outer s H E).nox ((Zaf Zat).drop 4) t ∧ ∀ (c n : Int) (b : Bool), 0 ≤ n → n ≤ 20 →
   t { nx := fun _ H' => Q .non H', rt := Q } [some (.ref a), some (.int m), some (.int c), some (.int n), some (.bl b), none, none, none, none, none, none, none] H := by
  refine ⟨_, (Zac (Zap 5 sc_law_roads_by.nd (ZfI rfl n_list (a_c (q_rng2 rfl n_range (a_c Zad (a_c (ZbG (q_v 3) Zad) Zab))) Zab)))
   (Zac (ZbQ PassesOwn.never (i_enum rfl n_enumerate (a_c (ZaY F_law_numbers hr (by decide) rfl (a_c (ZaY F_law_cell_at hr (by decide) rfl (a_c (q_v 0) (a_c Zad Zab))) (a_c (q_v 3) (a_c Zad Zab)))) Zab)) (Zhh (n := 2) (Zbq (Zar 6 sc_law_roads_by.nd) (Zbq (Zar 7 sc_law_roads_by.nd) Zew))) (Zac (Zap 8 sc_law_roads_by.nd (Za7 (q_v 7) (ZbG (q_v 6) Zad)))
   (Zai (s_asg (ZcH (a_c (Zcf (q_v 5) (q_v 8)) (a_c (Zcf (q_v 5) (q_v 6)) Zab))) (Zhh (n := 2) (Zbq (ZkE (q_v 5) (q_v 6)) (Zbq (ZkE (q_v 5) (q_v 8)) Zew)))))))
   ht2)), fun c n b hn0 hn1 => ?_⟩
  walk_at "rd"
  simp only [tRng2, Zhv, cxK, ZfF]
  walk_at "rd"
  simp only [Zb5, Zbd]
  walk_at "rd"
  intro pr H1 hpr s1 e1
  refine ⟨_, .inr (.inr ⟨1, n + 1, e1, by decide, by decide, by omega, by omega, rfl, by omega⟩), fun p H2 hp s2 e2 => ?_⟩
  have hpH : H p = none := s1.free hp
  refine ⟨⟨1, rfl⟩, ⟨ns, (s1.trans s2).seq hS⟩, hn0, by omega, ZaN (a := 6) (by decide) (by decide), fun pn H3 xs hpn s3 e3 hl3 hx3 => ?_⟩
  have hne : pn ≠ p := fun z => by rw [z, e2] at hpn; cases hpn
  refine ZgM (xs := xs.map V.int) (Pr H a p pn m c n b (xs.map V.int)) ⟨_, _, _, ZiG 1 n.toNat, rfl, s1.trans (s2.trans s3), ?_, e3, .refl _⟩ (fun i σ H' _ h => h.at) (fun i x σ H4 pb H5 hx hP hb s5 e5 => ?_) (fun σ H4 hP => ?_)
  ·rw [s3 _ _ e2, Zk2]
   congr 4
   omega
  ·obtain ⟨o1, o2, o3, ts, rfl, sm, e, ep, hpm⟩ := hP
   have hl : (ts.length : Int) = n := by rw [hpm.length_eq, Ze6]; omega
   have hi : i < xs.length := by have := (List.getElem?_eq_some_iff.mp hx).1; simpa using this
   have hxi : x = .int xs[i] := by rw [List.getElem?_map, List.getElem?_eq_getElem hi] at hx; exact (Option.some.inj hx).symm
   subst hxi
   walk_at "rd"
   simp only [e5]
   walk_at "rd"
   have hlt : i < ts.length := by omega
   have hq0 := Int.emod_nonneg xs[i] (b := (i : Int) + 1) (by omega)
   have hq1 := Int.emod_lt_of_pos xs[i] (b := (i : Int) + 1) (by omega)
   obtain ⟨j, hj⟩ : ∃ j : Nat, xs[i] % ((i : Int) + 1) = (j : Int) := ⟨_, (Int.toNat_of_nonneg hq0).symm⟩
   simp only [hj] at hq0 hq1 ⊢
   have hjl : j < ts.length := by omega
   have at5 := s5 _ _ e
   refine ⟨by omega, _, at5, .int ts[j], ZaE (by simp [hjl]), _, at5, .int ts[i], ZaE (by simp [hlt]), fun pt H6 hpt s6 e6 => ⟨_, e6, rfl, _, _, rfl, _, s6 _ _ at5, i, ZgJ (by simp [hlt]), _, _, rfl, _, upd_same, j, ZgJ (by simp [hjl]), rfl, ?_⟩⟩
   have pm := List.set_set_perm (as := ts) hlt hjl
   refine ⟨_, _, _, (ts.set i ts[j]).set j ts[i], rfl, Zam hpH (Zam hpH (sm.trans (s5.trans s6))), by rw [upd_same, List.map_set, List.map_set], by rw [Zae hne, Zae hne]; exact s6 _ _ (s5 _ _ ep), pm.trans hpm⟩
  ·obtain ⟨o1, o2, o3, ts, rfl, sm, e, _, hpm⟩ := hP
   exact hr2 c n b p o1 o2 o3 ts H4 hn0 hn1 hpH sm e hpm
 refine ⟨_, (Zac (Zap 2 sc_law_roads_by.nd (ZaY F_law_cell_at hr (by decide) rfl (a_c (q_v 0) (a_c Zad Zab))))
   (Zac (Zap 3 sc_law_roads_by.nd (Za7 (q_v 2) (ZbG (q_v 1) Zad)))
   (Zac (Zap 4 sc_law_roads_by.nd (q_eq (Za7 (ZbH (q_v 2) Zad) Zad) Zad))
   (Zac (Zc0 (Zcb (q_v 4)) (Zai (Zap 3 sc_law_roads_by.nd (Za7 (q_v 3) Zad))) (Zai (Zc0 (t_eq (Za7 (ZbH (q_v 2) Zad) Zad) Zad) (Zai (Zap 3 sc_law_roads_by.nd (Za7 (ZbH (q_v 2) Zad) Zad))) Zbs)))
   ht1)))), ?_⟩
 rw [show Zav ["_law_script", "_law_most", "_law_head", "_law_many", "_law_wide", "_law_turned", "_law_k", "_law_number", "_law_other", "_law_roads", "_law_prices", "_law_to"] [.ref a, .int m] = [some (.ref a), some (.int m), none, none, none, none, none, none, none, none, none, none] from rfl]
 walk_at "rd"
 simp only [Zb5]
 walk_at "rd"
 refine ⟨ns, 0, rfl, hS, by omega, ?_⟩
 have h9 := Int.emod_nonneg (cellOf ns 0) (b := m + 1) (by omega)
 have h8 := Int.emod_lt_of_pos (cellOf ns 0) (b := m + 1) (by omega)
 refine Ze9 (fun c => ?_) (fun c => ?_)
 ·exact hr1 _ _ _ (by omega) (by omega)
 ·refine Ze9 (fun c2 => ?_) (fun c2 => ?_)
  ·exact hr1 _ _ _ (by omega) (by omega)
  ·exact hr1 _ _ _ (by omega) (by omega)
end
section
variable {P : Program} {w : World} {K : PySem.W.Frag} {mg : Str → Option Value} {base : Heap} {f : Addr} {fd : FuncData}
def Zjo : Sp := fun vs H Q _ => ∃ (a : Addr) (xs : List V) (rs : List (Nat × Rat)) (k : Nat) (w : List Nat), vs = [.ref a, .int k] ∧ H a = some (.lst xs) ∧ RoadsV H xs rs ∧ WayR rs k w ∧ w.length ≤ 1000 ∧ ∀ p H', H p = none → Same H H' → H' p = some (.lst (Zbf w)) → Q (.ref p) H'
def Pw (H0 : Hp) (a p : Addr) (rs : List (Nat × Rat)) (w0 : List Nat) (σ : St) (H : Hp) : Prop := ∃ (k : Nat) (pre w : List Nat), σ = [some (.ref a), some (.int k), some (.ref p)] ∧ Same H0 H ∧ H p = some (.lst (Zbf pre)) ∧ WayR rs k w ∧ w0 = pre ++ w
theorem ok_way (F : Fun K "_law_way" "_law_way" Zb3 f fd) : FnOk P w K mg base CX0 1 f fd ["_law_roads", "_law_k"] Zjo := by
 refine okQ F sc_law_way (fun vs H Q E h => ?_) (fun cdv A outer s H vs Q E hr h => ?_)
 ·obtain ⟨a, xs, rs, k, w, rfl, _⟩ := h; rfl
 obtain ⟨a, xs, rs, k, w0, rfl, ha, hR, hw0, hwl, q⟩ := h
 refine ⟨_, (Zac (Zap 2 sc_law_way.nd (Zdc Zab))
   (Zac (ZeU PassesOwn.never (t_ne (q_v 1) Zad) (Zac (Zbt (ZeM (q_v 2) (a_c (q_v 1) Zab)))
   (Zai (Zap 1 sc_law_way.nd (ZaJ (Zcf (q_v 0) (Zc3 (q_v 1) Zad)) Zad)))))
   (Zai (Zay (q_v 2))))), ?_⟩
 rw [show Zav ["_law_roads", "_law_k", "_law_way_here"] [.ref a, .int k] = [some (.ref a), some (.int k), none] from rfl]
 walk_at "rd"
 intro p H1 hp s1 e1
 refine Ze8 (Pw H a p rs w0) (fun σ _ => wayM rs (Zla σ 1).toNat) ⟨k, [], w0, rfl, s1, e1, hw0, rfl⟩ ?_
 rintro σ H2 ⟨k, pre, w, rfl, s2, e2, hw, hw1⟩
 walk_at "rd"
 have hap : a ≠ p := fun z => by rw [z, hp] at ha; cases ha
 refine Ze9 (fun hc => ?_) (fun hc => ?_)
 ·cases hw with
  | nil => exact absurd rfl hc
  | @cons k r w h hw' =>
   have hkl : k < rs.length := (List.getElem?_eq_some_iff.mp h).1
   have hkx : k < xs.length := by rw [hR.1]; exact hkl
   obtain ⟨pr, y, ex, hpr, hy⟩ := hR.2 k _ r (List.getElem?_eq_getElem hkx) h
   have hrp : pr ≠ p := fun z => by rw [z, hp] at hpr; cases hpr
   have hlen : (Zbf pre).length < 1000000 := by
    have := congrArg List.length hw1
    simp [Zbf] at this ⊢
    omega
   refine ⟨fun σ' H' => σ' = [some (.ref a), some (.int r.1), some (.ref p)] ∧ Pw H a p rs w0 σ' H', fun σ' H' ⟨e, hP⟩ => ⟨_, ?_, rfl, hP⟩, ⟨_, e2⟩, _, e2, hlen, xs, by rw [Zae hap]; exact s2 _ _ ha, xs[k], ?_, pr, ex, _, by rw [Zae hrp]; exact s2 _ _ hpr, _, rfl, rfl, ?_⟩
   ·subst e
    show wayM rs ((r.1 : Nat) : Int).toNat < wayM rs (((k + 1 : Nat)) : Int).toNat
    rw [Int.toNat_natCast, Int.toNat_natCast, ZeC hw', ZeC (.cons h hw')]
    simp
   ·rw [show (((k + 1 : Nat)) : Int) - 1 = (k : Int) by omega]
    exact ZaE (List.getElem?_eq_getElem hkx)
   ·exact ⟨r.1, pre ++ [k + 1], w, rfl, Zam hp s2, by rw [upd_same]; simp [Zbf], hw', by simp [hw1]⟩
 ·have hk0 : k = 0 := by omega
  subst hk0
  have e := hw.zero
  subst e
  rw [List.append_nil] at hw1
  subst hw1
  exact q p H2 hp s2 e2
end
def PrP (H : Hp) (x : V) : Prop := ∃ a t b, x = .ref a ∧ H a = some (.tup [.int t, .int b]) ∧ 1 ≤ b ∧ Int.gcd t b = 1 ∧ 0 ≤ t
def RdP (H : Hp) (x : V) (n : Int) : Prop := ∃ a t y, x = .ref a ∧ H a = some (.tup [.int t, y]) ∧ 0 ≤ t ∧ t < n ∧ PrP H y
def sp_fr : Sp := fun vs H Q _ => ∃ x, vs = [x] ∧ PrP H x ∧ Q (.bl true) H
def ZcY : Sp := fun vs H Q _ => ∃ x, vs = [x] ∧ PrP H x ∧ Q (.bl true) H
def ZdA : Sp := fun vs H Q _ => ∃ x n, vs = [x, .int n] ∧ RdP H x n ∧ Q (.bl true) H
section
variable {P : Program} {w : World} {K : PySem.W.Frag} {mg : Str → Option Value} {base : Heap} {f : Addr} {fd : FuncData}
theorem Zgr (F : Fun K "is_ratio" "is_ratio" ZbB f fd) (n_isinstance : mg "isinstance" = none) (n_tuple : mg "tuple" = none) (n_len : mg "len" = none)
  (F_is_whole : Fn P w K mg base CX0 1 "is_whole" ["thing"] Zbu) (F_greatest_divisor : Fn P w K mg base CX0 1 "greatest_divisor" ["one", "other"] ZdK) :
  FnOk P w K mg base CX0 2 f fd ["thing"] sp_fr := by
 refine okQ F sc_is_ratio (fun vs H Q E h => ?_) (fun cdv A outer s H vs Q E hr h => ?_)
 ·obtain ⟨x, rfl, _⟩ := h; rfl
 obtain ⟨x, rfl, ⟨a, t, b, rfl, ha, h1, h2, h3⟩, q⟩ := h
 refine ⟨_, (Zac (Zc0 (t_w (Zh4 (Zc5 (Zcb (Zdh rfl n_isinstance (a_c (q_v 0) (a_c (q_ty rfl n_tuple rfl) Zab))))) (Zfm (t_ne (ZbS rfl n_len (a_c (q_v 0) Zab)) Zad)))) (Zai (Zay Zj8)) Zbs)
   (Zac (Zap 1 sc_is_ratio.nd (ZaJ (q_v 0) Zad))
   (Zac (Zap 2 sc_is_ratio.nd (ZaJ (q_v 0) Zad))
   (Zac (Zc0 (t_w (Zh4 (Zc5 (Zcb (ZaY F_is_whole hr (by decide) rfl (a_c (q_v 1) Zab)))) (Zfm (Zc5 (Zcb (ZaY F_is_whole hr (by decide) rfl (a_c (q_v 2) Zab))))))) (Zai (Zay Zj8)) Zbs)
   (Zai (Zay (ZhR (q_ge (q_v 2) Zad) (ZjY (q_eq (ZaY F_greatest_divisor hr (by decide) rfl (a_c (q_v 1) (a_c (q_v 2) Zab))) Zad))))))))), ?_⟩
 rw [show Zav ["thing", "top", "bottom"] [.ref a] = [some (.ref a), none, none] from rfl]
 refine ZaR fun B hB => ?_
 refine ZcK fun A hA C hC => ?_
 walk_at "rd"
 simp only [ZgC ha, ha]
 walk_at "rd"
 rw [if_neg (by decide)]
 subst hC
 walk_at "rd"
 subst hB
 try dsimp only
 refine ZaR fun B hB => ?_
 walk_at "rd"
 refine ⟨_, ha, _, rfl, ?_⟩
 subst hB
 try dsimp only
 refine ZaR fun B hB => ?_
 walk_at "rd"
 refine ⟨_, ha, _, rfl, ?_⟩
 subst hB
 try dsimp only
 refine ZaR fun B hB => ?_
 refine ZcK fun A hA C hC => ?_
 walk_at "rd"
 simp only [Zbu]
 walk_at "rd"
 refine ⟨Zc7 _, ?_⟩
 rw [if_neg (show ¬ isW (V.int t) = false from nofun)]
 refine ⟨Zc7 _, ?_⟩
 rw [if_neg (show ¬ isW (V.int b) = false from nofun)]
 subst hC
 walk_at "rd"
 subst hB
 try dsimp only
 walk_at "rd"
 simp only [ZdK]
 walk_at "rd"
 rw [if_pos h1, h2]
 exact q
theorem Zgk (F : Fun K "is_price" "is_price" Zbx f fd) (F_is_ratio : Fn P w K mg base CX0 2 "is_ratio" ["thing"] sp_fr) : FnOk P w K mg base CX0 3 f fd ["thing"] ZcY := by
 refine okQ F Zge (fun vs H Q E h => ?_) (fun cdv A outer s H vs Q E hr h => ?_)
 ·obtain ⟨x, rfl, _⟩ := h; rfl
 obtain ⟨x, rfl, ⟨a, t, b, rfl, ha, h1, h2, h3⟩, q⟩ := h
 refine ⟨_, (Zai (Zay (ZhR (ZaY F_is_ratio hr (by decide) rfl (a_c (q_v 0) Zab)) (ZjY (q_ge (ZaJ (q_v 0) Zad) Zad))))), ?_⟩
 rw [show Zav ["thing"] [.ref a] = [some (.ref a)] from rfl]
 walk_at "rd"
 simp only [sp_fr, ha]
 walk_at "rd"
 rw [decide_eq_true h3]
 exact ⟨⟨a, t, b, rfl, ha, h1, h2, h3⟩, q⟩
theorem Zh0 (F : Fun K "is_road" "is_road" ZbX f fd) (n_isinstance : mg "isinstance" = none) (n_tuple : mg "tuple" = none) (n_len : mg "len" = none) (F_is_whole : Fn P w K mg base CX0 1 "is_whole" ["thing"] Zbu)
  (F_is_price : Fn P w K mg base CX0 3 "is_price" ["thing"] ZcY) : FnOk P w K mg base CX0 4 f fd ["thing", "many"] ZdA := by
 refine okQ F sc_is_road (fun vs H Q E h => ?_) (fun cdv A outer s H vs Q E hr h => ?_)
 ·obtain ⟨x, n, rfl, _⟩ := h; rfl
 obtain ⟨x, n, rfl, ⟨a, t, y, rfl, ha, h1, h2, hp⟩, q⟩ := h
 refine ⟨_, (Zac (Zc0 (t_w (Zh4 (Zc5 (Zcb (Zdh rfl n_isinstance (a_c (q_v 0) (a_c (q_ty rfl n_tuple rfl) Zab))))) (Zfm (t_ne (ZbS rfl n_len (a_c (q_v 0) Zab)) Zad)))) (Zai (Zay Zj8)) Zbs)
   (Zac (Zap 2 sc_is_road.nd (ZaJ (q_v 0) Zad))
   (Zai (Zay (ZhR (ZaY F_is_whole hr (by decide) rfl (a_c (q_v 2) Zab)) (ZhR (q_leLt Zad (q_v 2) (q_v 1)) (ZjY (ZaY F_is_price hr (by decide) rfl (a_c (ZaJ (q_v 0) Zad) Zab))))))))), ?_⟩
 rw [show Zav ["thing", "many", "to"] [.ref a, .int n] = [some (.ref a), some (.int n), none] from rfl]
 refine ZaR fun B hB => ?_
 refine ZcK fun A hA C hC => ?_
 walk_at "rd"
 simp only [ZgC ha, ha]
 walk_at "rd"
 rw [if_neg (by decide)]
 subst hC
 walk_at "rd"
 subst hB
 try dsimp only
 refine ZaR fun B hB => ?_
 walk_at "rd"
 refine ⟨_, ha, _, rfl, ?_⟩
 subst hB
 try dsimp only
 walk_at "rd"
 simp only [Zbu, ZcY, ha]
 walk_at "rd"
 refine ⟨Zc7 _, ?_⟩
 rw [if_pos (show isW (V.int t) = true from rfl), if_pos h1, if_pos h2]
 exact ⟨hp, q⟩
def Zgs : Sp := fun vs H Q _ => ∃ (a : Addr) (xs : List V), vs = [.ref a] ∧ H a = some (.lst xs) ∧ xs.length ≤ 40 ∧ (∀ x ∈ xs, RdP H x (xs.length + 1)) ∧ Q .non H
def Zjp : Sp := fun vs H Q _ => ∃ (a : Addr) (xs : List V) (rs : List (Nat × Rat)) (k : Nat) (w : List Nat), vs = [.ref a, .int k] ∧ H a = some (.lst xs) ∧ RoadsV H xs rs ∧ WayR rs k w ∧ w.length ≤ rs.length ∧ rs.length ≤ 40 ∧ k ≤ rs.length ∧ (∀ r ∈ rs, r.1 ≤ rs.length) ∧
 ∀ p H', H p = none → Same H H' → H' p = some (.lst (Zbf w)) → Q (.ref p) H'
end
section
variable {P : Program} {w : World} {K : PySem.W.Frag} {mg : Str → Option Value} {base : Heap} {f : Addr} {fd : FuncData}
def Plk (H0 : Hp) (a : Addr) (n : Nat) (i : Nat) (σ : St) (H : Hp) : Prop := ∃ o, σ = [some (.ref a), some (.int ((n : Int) + 1)), o] ∧ H = H0
theorem ok_look {tk : Tok} (F : Fun K "look_roads" "look_roads" Zbc f fd) (n_isinstance : mg "isinstance" = none) (n_list : mg "list" = none) (n_len : mg "len" = none) (g_MOST_ROADS : mg "MOST_ROADS" = some (.int 40 tk))
  (F_is_road : Fn P w K mg base CX0 4 "is_road" ["thing", "many"] ZdA) : FnOk P w K mg base CX0 5 f fd ["thing"] Zgs := by
 refine okQ F sc_look_roads (fun vs H Q E h => ?_) (fun cdv A outer s H vs Q E hr h => ?_)
 ·obtain ⟨a, xs, rfl, _⟩ := h; rfl
 obtain ⟨a, xs, rfl, ha, hl, hx, q⟩ := h
 refine ⟨_, (Zac (Zc0 (Zc5 (Zcb (Zdh rfl n_isinstance (a_c (q_v 0) (a_c (q_ty rfl n_list rfl) Zab))))) (Zai ZbR) Zbs)
   (Zac (Zc0 (t_gt (ZbS rfl n_len (a_c (q_v 0) Zab)) (q_gint rfl g_MOST_ROADS)) (Zai ZbR) Zbs)
   (Zac (Zap 1 sc_look_roads.nd (ZbG (ZbS rfl n_len (a_c (q_v 0) Zab)) Zad))
   (Zai (ZbQ PassesOwn.never (Zbm (q_v 0)) (Zar 2 sc_look_roads.nd) (Zai (Zc0 (Zc5 (Zcb (ZaY F_is_road hr (by decide) rfl (a_c (q_v 2) (a_c (q_v 1) Zab))))) (Zai ZbR) Zbs))))))), ?_⟩
 rw [show Zav ["thing", "many", "road"] [.ref a] = [some (.ref a), none, none] from rfl]
 refine ZaR fun B hB => ?_
 refine ZcK fun A hA C hC => ?_
 walk_at "rd"
 simp only [Zlc ha]
 walk_at "rd"
 subst hC
 walk_at "rd"
 subst hB
 try dsimp only
 refine ZaR fun B hB => ?_
 refine ZcK fun A hA C hC => ?_
 walk_at "rd"
 refine ⟨xs, .inl ha, ?_⟩
 rw [if_neg (by omega)]
 subst hC
 walk_at "rd"
 subst hB
 try dsimp only
 refine ZaR fun B hB => ?_
 walk_at "rd"
 refine ⟨xs, .inl ha, ?_⟩
 subst hB
 try dsimp only
 simp only [Za6]
 walk_at "rd"
 refine Zbl (Plk H a xs.length) ⟨_, rfl, rfl⟩ (fun i σ H' _ ⟨o, _, e⟩ => by rw [e]; exact .of ha) (fun i x σ H' hi hP => ?_) (fun σ H' hP => ?_)
 ·obtain ⟨o, rfl, rfl⟩ := hP
  walk_at "rd"
  simp only [ZdA]
  walk_at "rd"
  exact ⟨hx x (List.mem_of_getElem? hi), _, rfl, rfl⟩
 ·obtain ⟨o, rfl, rfl⟩ := hP
  exact q
def Pwf (H0 : Hp) (a p : Addr) (k0 : Nat) (rs : List (Nat × Rat)) (w0 : List Nat) (σ : St) (H : Hp) : Prop := ∃ (k : Nat) (pre w : List Nat), σ = [some (.ref a), some (.int k0), some (.ref p), some (.int k)] ∧ Same H0 H ∧ H p = some (.lst (Zbf pre)) ∧ WayR rs k w ∧ w0 = pre ++ w
theorem ok_wayf (F : Fun K "way_from" "way_from" ZbA f fd) (n_len : mg "len" = none) : FnOk P w K mg base CX0 1 f fd ["roads", "k"] Zjp := by
 refine okQ F sc_way_from (fun vs H Q E h => ?_) (fun cdv A outer s H vs Q E hr h => ?_)
 ·obtain ⟨a, xs, rs, k, w, rfl, _⟩ := h; rfl
 obtain ⟨a, xs, rs, k0, w0, rfl, ha, hR, hw0, hwl, hrl, _, _, q⟩ := h
 refine ⟨_, (Zac (Zap 2 sc_way_from.nd (Zdc Zab))
   (Zac (Zap 3 sc_way_from.nd (q_v 1))
   (Zac (ZeU PassesOwn.never (t_ne (q_v 3) Zad) (Zac (Zc0 (t_eq (ZbS rfl n_len (a_c (q_v 2) Zab)) (ZbS rfl n_len (a_c (q_v 0) Zab))) (Zai ZbR) Zbs)
   (Zac (Zbt (ZeM (q_v 2) (a_c (q_v 3) Zab)))
   (Zai (Zap 3 sc_way_from.nd (ZaJ (Zcf (q_v 0) (Zc3 (q_v 3) Zad)) Zad))))))
   (Zai (Zay (q_v 2)))))), ?_⟩
 rw [show Zav ["roads", "k", "way", "place"] [.ref a, .int k0] = [some (.ref a), some (.int k0), none, none] from rfl]
 walk_at "rd"
 intro p H1 hp s1 e1
 refine Ze8 (Pwf H a p k0 rs w0) (fun σ _ => wayM rs (Zla σ 3).toNat) ⟨k0, [], w0, rfl, s1, e1, hw0, rfl⟩ ?_
 rintro σ H2 ⟨k, pre, w, rfl, s2, e2, hw, hw1⟩
 walk_at "rd"
 have hap : a ≠ p := fun z => by rw [z, hp] at ha; cases ha
 refine Ze9 (fun hc => ?_) (fun hc => ?_)
 ·cases hw with
  | nil => exact absurd rfl hc
  | @cons k r w h hw' =>
   have hkl : k < rs.length := (List.getElem?_eq_some_iff.mp h).1
   have hkx : k < xs.length := by rw [hR.1]; exact hkl
   obtain ⟨pr, y, ex, hpr, hy⟩ := hR.2 k _ r (List.getElem?_eq_getElem hkx) h
   have hrp : pr ≠ p := fun z => by rw [z, hp] at hpr; cases hpr
   have hpl : pre.length < rs.length := by
    have := congrArg List.length hw1
    simp at this
    omega
   have hlen : (Zbf pre).length < 1000000 := by simp [Zbf]; omega
   simp only [e2, s2 _ _ ha]
   walk_at "rd"
   refine ⟨fun σ' H' => σ' = [some (.ref a), some (.int k0), some (.ref p), some (.int r.1)] ∧ Pwf H a p k0 rs w0 σ' H', fun σ' H' ⟨e, hP⟩ => ⟨_, ?_, rfl, hP⟩, ?_⟩
   ·subst e
    show wayM rs ((r.1 : Nat) : Int).toNat < wayM rs (((k + 1 : Nat)) : Int).toNat
    rw [Int.toNat_natCast, Int.toNat_natCast, ZeC hw', ZeC (.cons h hw')]
    simp
   rw [if_neg (by have := hR.1; simp [Zbf]; omega)]
   refine ⟨hlen, xs, by rw [Zae hap]; exact s2 _ _ ha, xs[k], ?_, pr, ex, _, by rw [Zae hrp]; exact s2 _ _ hpr, _, rfl, rfl, ?_⟩
   ·rw [show (((k + 1 : Nat)) : Int) - 1 = (k : Int) by omega]
    exact ZaE (List.getElem?_eq_getElem hkx)
   ·exact ⟨r.1, pre ++ [k + 1], w, rfl, Zam hp s2, by rw [upd_same]; simp [Zbf], hw', by simp [hw1]⟩
 ·have hk0 : k = 0 := by omega
  subst hk0
  have e := hw.zero
  subst e
  rw [List.append_nil] at hw1
  subst hw1
  exact q p H2 hp s2 e2
end
theorem RatV.keep {H H' : Hp} {x : V} {q : Rat} (h : RatV H x q) (s : ∀ b ys, H b = some (.tup ys) → H' b = some (.tup ys)) : RatV H' x q := let ⟨p, e, h1⟩ := h; ⟨p, e, s _ _ h1⟩
theorem RoadV.keep {H H' : Hp} {x : V} {r : Nat × Rat} (h : RoadV H x r) (s : ∀ b ys, H b = some (.tup ys) → H' b = some (.tup ys)) : RoadV H' x r := let ⟨p, y, e, h1, h2⟩ := h; ⟨p, y, e, s _ _ h1, h2.keep s⟩
theorem RoadsV.keep {H H' : Hp} {xs : List V} {rs : List (Nat × Rat)} (h : RoadsV H xs rs) (s : ∀ b ys, H b = some (.tup ys) → H' b = some (.tup ys)) : RoadsV H' xs rs := ⟨h.1, fun i x r h1 h2 => (h.2 i x r h1 h2).keep s⟩
theorem RoadsV.same {H H' : Hp} {xs : List V} {rs : List (Nat × Rat)} (h : RoadsV H xs rs) (s : Same H H') : RoadsV H' xs rs := h.keep fun b ys => s b _
def WaysV (H : Hp) (ws : List V) (rs : List (Nat × Rat)) : Prop := ws.length = rs.length + 1 ∧ ∀ (k : Nat) x, ws[k]? = some x → ∃ p w, x = .ref p ∧ H p = some (.lst (Zbf w)) ∧ WayR rs k w ∧ w.length ≤ rs.length
def TreeV (C : Addr) (H : Hp) (x : V) (rs : List (Nat × Rat)) : Prop := ∃ a dx la wa ls ws, x = .ref a ∧ H a = some (.ins C dx [("lanes", .ref la), ("ways", .ref wa)]) ∧ H la = some (.lst ls) ∧ RoadsV H ls rs ∧ H wa = some (.lst ws) ∧ WaysV H ws rs
theorem TreeV.same {C : Addr} {H H' : Hp} {x : V} {rs : List (Nat × Rat)} (h : TreeV C H x rs) (s : Same H H') : TreeV C H' x rs := by
 obtain ⟨a, dx, la, wa, ls, ws, e, h1, h2, h3, h4, h5, h6⟩ := h
 exact ⟨a, dx, la, wa, ls, ws, e, s _ _ h1, s _ _ h2, h3.same s, s _ _ h4, h5, fun k x hx => let ⟨p, w, e, g1, g2⟩ := h6 k x hx; ⟨p, w, e, s _ _ g1, g2⟩⟩
theorem ZhG {H : Hp} {x : V} {r : Nat × Rat} {n : Int} (h : RoadV H x r) (h1 : (r.1 : Int) < n) (h2 : 0 ≤ r.2.num) : RdP H x n := by
 obtain ⟨p, y, rfl, hp, q, rfl, hq⟩ := h
 have hg : Int.gcd r.2.num (r.2.den : Int) = 1 := by
  show Nat.gcd r.2.num.natAbs (Int.natAbs (r.2.den : Int)) = 1
  rw [Int.natAbs_natCast]
  exact r.2.reduced
 have hd : 1 ≤ (r.2.den : Int) := by have := r.2.den_pos; omega
 exact ⟨p, _, _, rfl, hp, by omega, h1, q, _, _, rfl, hq, hd, hg, h2⟩
section
variable {P : Program} {w : World} {K : PySem.W.Frag} {mg : Str → Option Value} {base : Heap} {f : Addr} {fd : FuncData} {CT CNP : Addr}
def Zj3 (C : Addr) : Sp := fun vs H Q _ => ∃ (x dx a : Addr) (xs : List V) (rs : List (Nat × Rat)), vs = [.ref x, .ref a] ∧ H x = some (.ins C dx []) ∧ H a = some (.lst xs) ∧ RoadsV H xs rs ∧ Zcx rs ∧ rs.length ≤ 40 ∧ (∀ r ∈ rs, 0 ≤ r.2.num) ∧
 ∀ H', (∀ b o, b ≠ x → H b = some o → H' b = some o) → TreeV C H' (.ref x) rs → (∀ l zs, H l = some (.lst zs) → ∀ H'', Same H' H'' → ∀ ys, TreeV C (upd H'' l (.lst ys)) (.ref x) rs) → Q .non H'
theorem ok_init (F : Fun K "__init__" "Tree.__init__" Zau f fd) (n_list : mg "list" = none) (n_len : mg "len" = none) (n_range : mg "range" = none) (cls_Tree : Cls K CT) (nf_lanes : NoAttr K CT "lanes") (nf_ways : NoAttr K CT "ways")
  (F_look_roads : Fn P w K mg base CX0 5 "look_roads" ["thing"] Zgs) (F_way_from : Fn P w K mg base CX0 1 "way_from" ["roads", "k"] Zjp) : FnOk P w K mg base CX0 6 f fd ["self", "roads"] (Zj3 CT) := by
 refine okQ F Zdm (fun vs H Q E h => ?_) (fun cdv A outer s H vs Q E hr h => ?_)
 ·obtain ⟨x, dx, a, xs, rs, rfl, _⟩ := h; rfl
 obtain ⟨x, dx, a, xs, rs, rfl, hx, ha, hR, hT, hl, hn, q⟩ := h
 refine ⟨_, (Zac (Zbt (ZaY F_look_roads hr (by decide) rfl (a_c (q_v 1) Zab)))
   (Zac (s_fld (q_v 0) (ZfI rfl n_list (a_c (q_v 1) Zab)))
   (Zai (s_fld (q_v 0) (Zen (Zji ["k"] [1] ["roads"]) (ZdY rfl n_range (a_c (ZbG (ZbS rfl n_len (a_c (q_v 1) Zab)) Zad) Zab)) (by exact fun s H fp => (Zar 0 (show List.Nodup (["k", "roads"] : List Str) from by decide +kernel))) (by exact fun s H fp => (ZaY F_way_from hr (by decide) rfl (a_c (q_v 1) (a_c (q_v 0) Zab))))))))), ?_⟩
 rw [show Zav ["self", "roads"] [.ref x, .ref a] = [some (.ref x), some (.ref a)] from rfl]
 walk_at "rd"
 simp only [Zgs, Zhv]
 walk_at "rd"
 refine ⟨xs, ha, by rw [hR.1]; exact hl, fun y hy => ?_, xs, .inl (.of ha), fun l H1 hl1 s1 e1 => ?_⟩
 ·obtain ⟨i, hi⟩ := List.getElem?_of_mem hy
  have hi' : i < rs.length := by rw [← hR.1]; exact (List.getElem?_eq_some_iff.mp hi).1
  obtain ⟨_, _, _, hT2⟩ := hT
  have h2 := hT2 i _ (List.getElem?_eq_getElem hi')
  exact ZhG (hR.2 i y _ hi (List.getElem?_eq_getElem hi')) (by rw [hR.1]; omega) (hn _ (List.getElem_mem hi'))
 refine ⟨CT, dx, [], s1 _ _ hx, cls_Tree, nf_lanes, by decide, ?_⟩
 have hax : a ≠ x := ZbI ha hx (by intro z; cases z)
 rw [show ZfG (Str.ofString "lanes") (.ref l) [] = [(Str.ofString "lanes", V.ref l)] from rfl]
 have k1 : ∀ b o, b ≠ x → H b = some o → upd H1 x (.ins CT dx [(Str.ofString "lanes", V.ref l)]) b = some o := fun b o hb e => by rw [Zae hb]; exact s1 _ _ e
 have ha2 : upd H1 x (.ins CT dx [(Str.ofString "lanes", V.ref l)]) a = some (.lst xs) := k1 _ _ hax ha
 have hl2 : upd H1 x (.ins CT dx [(Str.ofString "lanes", V.ref l)]) l = some (.lst xs) := by rw [Zae (ZbI e1 (s1 _ _ hx) (by intro z; cases z))]; exact e1
 have hx2 : upd H1 x (.ins CT dx [(Str.ofString "lanes", V.ref l)]) x = some (.ins CT dx [(Str.ofString "lanes", V.ref l)]) := upd_same
 generalize upd H1 x (.ins CT dx [(Str.ofString "lanes", V.ref l)]) = H2 at k1 ha2 hl2 hx2 ⊢
 simp only [Zc8, ZhC, cxK]
 walk_at "rd"
 have hxl := hR.1
 have hto : ∀ r ∈ rs, r.1 ≤ rs.length := fun r hr => by
  obtain ⟨_, _, _, g⟩ := id hT
  obtain ⟨i, hi⟩ := List.getElem?_of_mem hr
  exact (g i r hi).1
 refine ⟨xs, .inl ha2, by omega, by omega, ?_⟩
 rw [show ZbK [some (V.ref x), some (V.ref a)] [1] = [some (V.ref a)] from rfl]
 have tk : ∀ H3, Same H2 H3 → RoadsV H3 xs rs := fun H3 sm => hR.keep fun b ys e => sm _ _ (k1 b _ (ZbI e hx (by intro z; cases z)) e)
 refine Zjj (fun acc i ys H' => Same H2 H' ∧ H' acc = some (.lst ys) ∧ ys.length = i ∧ i ≤ 50 ∧ ∀ (k : Nat) y, ys[k]? = some y → ∃ p w, y = .ref p ∧ p ≠ acc ∧ H2 p = none ∧ H' p = some (.lst (Zbf w)) ∧ WayR rs k w ∧ w.length ≤ rs.length)
  (fun acc H3 hn sm e => ⟨sm, e, rfl, by omega, fun k y hy => by simp at hy⟩) (fun acc i ys H3 ⟨_, e, hl, hi, _⟩ => ⟨e, by omega⟩) (fun acc i ys H3 os hn hi hP ol => ?_) (fun acc ys H3 hn' hP => ?_)
 ·obtain ⟨sm, e, hyl, hi2, hE⟩ := hP
  obtain ⟨o, rfl⟩ : ∃ o, os = [o] := by match os, ol with | [o], _ => exact ⟨o, rfl⟩
  obtain ⟨w, hw, hwl⟩ := Zcn hT (k := i) (by omega)
  walk_at "rd"
  refine ⟨[some (.int (i : Int))], rfl, rfl, ?_⟩
  refine ⟨a, xs, rs, i, w, rfl, sm _ _ ha2, tk _ sm, hw, hwl, by omega, by omega, hto, fun p' H4 hp' s4 e4 => ⟨s4 _ _ e, Zam hn (sm.trans s4), upd_same, by simp [hyl], by omega, fun k y hy => ?_⟩⟩
  by_cases hk : k < ys.length
  ·rw [List.getElem?_append_left hk] at hy
   obtain ⟨p, w, e5, hpa, hpn, e6, e7⟩ := hE k y hy
   exact ⟨p, e5, hpa, hpn, w, by rw [Zae hpa]; exact s4 _ _ e6, e7⟩
  ·have hk2 : k = i := by
    have := (List.getElem?_eq_some_iff.mp hy).1
    simp at this; omega
   subst hk2
   rw [List.getElem?_append_right (by omega), hyl] at hy
   have hy' : V.ref p' = y := by simpa using hy
   subst hy'
   have hpa : p' ≠ acc := fun z => by rw [z, e] at hp'; cases hp'
   exact ⟨p', rfl, hpa, sm.free hp', w, by rw [Zae hpa]; exact e4, hw, hwl⟩
 ·obtain ⟨sm, e, hyl, hi2, hE⟩ := hP
  have nx : ∀ b ys, H3 b = some (.lst ys) → b ≠ x := fun b ys e => ZbI e (sm _ _ hx2) (by intro z; cases z)
  have gen : ∀ H5 : Hp, H5 x = some (.ins CT dx [("lanes", .ref l), ("ways", .ref acc)]) → H5 l = some (.lst xs) → H5 acc = some (.lst ys) → (∀ p w, H2 p = none → H3 p = some (.lst (Zbf w)) → H5 p = some (.lst (Zbf w))) → (∀ b zs, H3 b = some (.tup zs) → H5 b = some (.tup zs)) → TreeV CT H5 (.ref x) rs := by
   intro H5 g1 g2 g3 g4 g5
   refine ⟨x, dx, l, acc, xs, ys, rfl, g1, g2, (tk _ sm).keep g5, g3, by omega, fun k y hy => ?_⟩
   obtain ⟨p, w, e5, _, hpn, e6, e7⟩ := hE k y hy
   exact ⟨p, w, e5, g4 _ _ hpn e6, e7⟩
  refine ⟨CT, dx, _, sm _ _ hx2, cls_Tree, nf_ways, by show (1 : Nat) < 1000; decide, q _ (fun b o hb e => by rw [Zae hb]; exact sm _ _ (k1 b o hb e)) ?_ (fun l0 zs h0 H'' s'' us => ?_)⟩
  ·exact gen _ upd_same (by rw [Zae (nx _ _ (sm _ _ hl2))]; exact sm _ _ hl2) (by rw [Zae (nx _ _ e)]; exact e) (fun p w _ h => by rw [Zae (nx _ _ h)]; exact h) (fun b zs h => by rw [Zae (ZbI h (sm _ _ hx2) (by intro z; cases z))]; exact h)
  ·have n1 : x ≠ l0 := ZbI hx h0 (by intro z; cases z)
   have h2 : H2 l0 = some (.lst zs) := k1 _ _ (fun z => n1 z.symm) h0
   have h3 : H'' l0 = some (.lst zs) := s'' _ _ (by rw [Zae (fun z => n1 z.symm)]; exact sm _ _ h2)
   have keepL : ∀ b ws, b ≠ l0 → H3 b = some (.lst ws) → upd H'' l0 (.lst us) b = some (.lst ws) := fun b ws hb h => by
    rw [Zae hb]; exact s'' _ _ (by rw [Zae (nx _ _ h)]; exact h)
   have n2 : l ≠ l0 := fun z => by rw [z, h0] at hl1; cases hl1
   have n3 : acc ≠ l0 := fun z => by rw [z, h2] at hn'; cases hn'
   exact gen _ (by rw [Zae n1]; exact s'' _ _ upd_same) (keepL _ _ n2 (sm _ _ hl2)) (keepL _ _ n3 e) (fun p w hp h => keepL _ _ (fun z => by rw [z, h2] at hp; cases hp) h)
    (fun b zs' h => by
     have hb : b ≠ l0 := ZbI h (sm _ _ h2) (by intro z; cases z)
     rw [Zae hb]; exact s'' _ _ (by rw [Zae (ZbI h (sm _ _ hx2) (by intro z; cases z))]; exact h))
end
section
variable {P : Program} {w : World} {K : PySem.W.Frag} {mg : Str → Option Value} {base : Heap} {f : Addr} {fd : FuncData} {CT CNP : Addr}
def ZeS (C : Addr) : Sp := fun vs H Q _ => ∃ x rs, vs = [x] ∧ TreeV C H x rs ∧ Q (.int ((rs.length : Int) + 1)) H
theorem ok_many (F : Fun K "many" "Tree.many" ZaT f fd) (n_len : mg "len" = none) (cls_Tree : Cls K CT) (nf_ways : NoAttr K CT "ways") : FnOk P w K mg base CX0 1 f fd ["self"] (ZeS CT) := by
 refine okQ F Zfc (fun vs H Q E h => ?_) (fun cdv A outer s H vs Q E hr h => ?_)
 ·obtain ⟨x, rs, rfl, _⟩ := h; rfl
 obtain ⟨x, rs, rfl, ⟨a, dx, la, wa, ls, ws, rfl, h1, h2, h3, h4, h5, h6⟩, q⟩ := h
 refine ⟨_, (Zai (Zay (ZbS rfl n_len (a_c (q_fld (q_v 0)) Zab)))), ?_⟩
 rw [show Zav ["self"] [.ref a] = [some (.ref a)] from rfl]
 walk_at "rd"
 refine ⟨CT, dx, _, h1, cls_Tree, nf_ways, .ref wa, rfl, wa, rfl, ws, .inl h4, ?_⟩
 rw [show ((ws.length : Nat) : Int) = (rs.length : Int) + 1 by omega]
 exact q
def inT (rs : List (Nat × Rat)) (k : Int) : Prop := 0 ≤ k ∧ k ≤ rs.length
def Zez (C CNP : Addr) : Sp := fun vs H Q E => ∃ x rs k, vs = [x, .int k] ∧ TreeV C H x rs ∧ (inT rs k → Q .non H) ∧ (¬ inT rs k → E (.ref CNP) none H)
theorem Zkr (F : Fun K "look_crossing" "Tree.look_crossing" Zal f fd) (F_is_whole : Fn P w K mg base CX0 1 "is_whole" ["thing"] Zbu)
  (M_many : Mth P w K mg base CX0 1 CT "many" ["self"] (ZeS CT)) : FnOk P w K mg base CX0 2 f fd ["self", "k"] (fun vs H Q _ => Zez CT CNP vs H Q E0) := by
 refine okQ F Zcd (fun vs H Q E h => ?_) (fun cdv A outer s H vs Q E hr h => ?_)
 ·obtain ⟨x, rs, k, rfl, _⟩ := h; rfl
 obtain ⟨x, rs, k, rfl, hT, q1, q2⟩ := h
 have hin : inT rs k := Classical.byContradiction fun z => q2 z
 refine ⟨_, (Zai (Zc0 (t_w (Zh4 (Zc5 (Zcb (ZaY F_is_whole hr (by decide) rfl (a_c (q_v 1) Zab)))) (Zh4 (t_lt (q_v 1) Zad) (Zfm (t_ge (q_v 1) (Zjc M_many hr (by decide) (q_v 0))))))) (Zai ZbR) Zbs)), ?_⟩
 rw [show Zav ["self", "k"] [x, .int k] = [some (x), some (.int k)] from rfl]
 walk_at "rd"
 simp only [Zbu, ZeS]
 walk_at "rd"
 refine ⟨Zc7 k, ?_⟩
 rw [if_neg (by simp [isW])]
 refine Ze9 (fun c => absurd hin (by unfold inT; omega)) (fun c => ?_)
 obtain ⟨a, dx, la, wa, ls, ws, rfl, h1, _⟩ := id hT
 exact ⟨a, rfl, dx, _, h1, rfl, rs, hT, Ze9 (fun c2 => absurd hin (by unfold inT; omega)) (fun c2 => q1 hin)⟩
def Zgm (C CNP : Addr) : Sp := fun vs H Q E => ∃ x rs k, vs = [x, .int k] ∧ TreeV C H x rs ∧ (∀ (p : Addr) (H' : Hp) (k' : Nat) (w : List Nat), k = (k' : Int) → H p = none → Same H H' → H' p = some (.lst (Zbf w)) → WayR rs k' w → w.length ≤ rs.length → Q (.ref p) H') ∧ (¬ inT rs k → E (.ref CNP) none H)
theorem ok_wayM (F : Fun K "way" "Tree.way" Za2 f fd) (n_list : mg "list" = none) (cls_Tree : Cls K CT) (nf_ways : NoAttr K CT "ways")
  (M_look_crossing : Mth P w K mg base CX0 2 CT "look_crossing" ["self", "k"] (fun vs H Q _ => Zez CT CNP vs H Q E0)) : FnOk P w K mg base CX0 3 f fd ["self", "k"] (fun vs H Q _ => Zgm CT CNP vs H Q E0) := by
 refine okQ F Zf9 (fun vs H Q E h => ?_) (fun cdv A outer s H vs Q E hr h => ?_)
 ·obtain ⟨x, rs, k, rfl, _⟩ := h; rfl
 obtain ⟨x, rs, k, rfl, hT, q1, q2⟩ := h
 have hin : inT rs k := Classical.byContradiction fun z => q2 z
 refine ⟨_, (Zac (Zbt (Zcv M_look_crossing hr (by decide) (q_v 0) (a_c (q_v 1) Zab)))
   (Zai (Zay (ZfI rfl n_list (a_c (Zcf (q_fld (q_v 0)) (q_v 1)) Zab))))), ?_⟩
 rw [show Zav ["self", "k"] [x, .int k] = [some (x), some (.int k)] from rfl]
 walk_at "rd"
 simp only [Zhv]
 walk_at "rd"
 obtain ⟨a, dx, la, wa, ls, ws, rfl, h1, h2, h3, h4, h5, h6⟩ := id hT
 refine ⟨a, rfl, dx, _, h1, rfl, .ref a, rs, k, rfl, hT, fun _ => ?_, fun z => z hin⟩
 obtain ⟨k', hk'⟩ : ∃ k' : Nat, k = (k' : Int) := ⟨k.toNat, by unfold inT at hin; omega⟩
 subst hk'
 have hlt : k' < ws.length := by unfold inT at hin; omega
 obtain ⟨p, w, e5, e6, e7, e8⟩ := h6 k' _ (List.getElem?_eq_getElem hlt)
 exact ⟨a, rfl, CT, dx, _, h1, cls_Tree, nf_ways, .ref wa, rfl, wa, rfl, ws, h4, _, ZaE (List.getElem?_eq_getElem hlt), p, e5, Zbf w, .inl (.of e6), fun l H2 hl s e => q1 l H2 k' w rfl hl s e e7 e8⟩
end
section
variable {P : Program} {w : World} {K : PySem.W.Frag} {mg : Str → Option Value} {base : Heap} {f : Addr} {fd : FuncData} {CT CNP : Addr}
def inR (rs : List (Nat × Rat)) (k : Int) : Prop := 1 ≤ k ∧ k ≤ rs.length
def Ze0 (C CNP : Addr) : Sp := fun vs H Q E => ∃ x rs k, vs = [x, .int k] ∧ TreeV C H x rs ∧ (inR rs k → Q .non H) ∧ (¬ inR rs k → E (.ref CNP) none H)
theorem Zk9 (F : Fun K "look_road" "Tree.look_road" Zas f fd)
  (M_look_crossing : Mth P w K mg base CX0 2 CT "look_crossing" ["self", "k"] (fun vs H Q _ => Zez CT CNP vs H Q E0)) : FnOk P w K mg base CX0 3 f fd ["self", "k"] (fun vs H Q _ => Ze0 CT CNP vs H Q E0) := by
 refine okQ F Zc2 (fun vs H Q E h => ?_) (fun cdv A outer s H vs Q E hr h => ?_)
 ·obtain ⟨x, rs, k, rfl, _⟩ := h; rfl
 obtain ⟨x, rs, k, rfl, hT, q1, q2⟩ := h
 have hin : inR rs k := Classical.byContradiction fun z => q2 z
 refine ⟨_, (Zac (Zbt (Zcv M_look_crossing hr (by decide) (q_v 0) (a_c (q_v 1) Zab)))
   (Zai (Zc0 (t_eq (q_v 1) Zad) (Zai ZbR) Zbs))), ?_⟩
 rw [show Zav ["self", "k"] [x, .int k] = [some (x), some (.int k)] from rfl]
 walk_at "rd"
 obtain ⟨a, dx, la, wa, ls, ws, rfl, h1, _⟩ := id hT
 refine ⟨a, rfl, dx, _, h1, rfl, .ref a, rs, k, rfl, hT, fun _ => ?_, fun z => z ⟨by unfold inR at hin; omega, by unfold inR at hin; omega⟩⟩
 exact Ze9 (fun c => absurd hin (by unfold inR; omega)) (fun c => q1 hin)
end
open Classical in
noncomputable def wayL (rs : List (Nat × Rat)) (k : Nat) : List Nat := if h : ∃ w, WayR rs k w then h.choose else []
theorem Zb9 {rs : List (Nat × Rat)} {k : Nat} {w : List Nat} (h : WayR rs k w) : wayL rs k = w := by
 have hh : ∃ w, WayR rs k w := ⟨w, h⟩
 unfold wayL
 rw [dif_pos hh]
 exact h.uniq hh.choose_spec
noncomputable def ben (rs : List (Nat × Rat)) (k : Nat) : List Nat := (List.range (rs.length + 1)).filter fun j => decide (k ∈ wayL rs j)
theorem Zf4 {k : Nat} {w : List Nat} : inV (.int (k : Int)) (Zbf w) = decide (k ∈ w) := by
 unfold inV Zbf
 rw [List.any_map, Bool.eq_iff_iff, List.any_eq_true, decide_eq_true_eq]
 constructor
 ·rintro ⟨y, hy, e⟩
  have e : (y : Int) = (k : Int) := by simpa [eqV] using e
  have : y = k := by omega
  rw [← this]; exact hy
 ·intro h
  exact ⟨k, h, by simp [eqV]⟩
theorem ZeD {w : List Nat} : (Zbf w).all Zdb = true := by
 rw [List.all_eq_true]
 intro v hv
 obtain ⟨k, _, rfl⟩ := List.mem_map.mp hv
 rfl
section
variable {P : Program} {w : World} {K : PySem.W.Frag} {mg : Str → Option Value} {base : Heap} {f : Addr} {fd : FuncData} {CT CNP : Addr}
def Zj0 (C CNP : Addr) : Sp := fun vs H Q E => ∃ x rs k, vs = [x, .int k] ∧ TreeV C H x rs ∧ rs.length ≤ 100 ∧ (∀ (p : Addr) (H' : Hp) (k' : Nat), k = (k' : Int) → inR rs k → H p = none → Same H H' → H' p = some (.lst (Zbf (ben rs k'))) → Q (.ref p) H') ∧ (¬ inR rs k → E (.ref CNP) none H)
theorem ok_benM (F : Fun K "beneath" "Tree.beneath" Zaw f fd) (n_range : mg "range" = none) (cls_Tree : Cls K CT) (nf_ways : NoAttr K CT "ways") (M_many : Mth P w K mg base CX0 1 CT "many" ["self"] (ZeS CT))
  (M_look_road : Mth P w K mg base CX0 3 CT "look_road" ["self", "k"] (fun vs H Q _ => Ze0 CT CNP vs H Q E0)) : FnOk P w K mg base CX0 4 f fd ["self", "k"] (fun vs H Q _ => Zj0 CT CNP vs H Q E0) := by
 refine okQ F Zed (fun vs H Q E h => ?_) (fun cdv A outer s H vs Q E hr h => ?_)
 ·obtain ⟨x, rs, k, rfl, _⟩ := h; rfl
 obtain ⟨x, rs, k, rfl, hT, hrl, q1, q2⟩ := h
 have hin : inR rs k := Classical.byContradiction fun z => q2 z
 refine ⟨_, (Zac (Zbt (Zcv M_look_road hr (by decide) (q_v 0) (a_c (q_v 1) Zab)))
   (Zai (Zay (Zgt (Zji ["place"] [0, 1] ["self", "k"]) (ZdY rfl n_range (a_c (Zjc M_many hr (by decide) (q_v 0)) Zab)) (by exact fun s H fp => (Zar 0 (show List.Nodup (["place", "self", "k"] : List Str) from by decide +kernel))) (by exact fun s H fp => Zg5 (Zik K (q_v 2) (Zcf (q_fldK K (q_v 1)) (q_v 0)))) (by exact fun s H fp => (q_v 0)))))), ?_⟩
 rw [show Zav ["self", "k"] [x, .int k] = [some (x), some (.int k)] from rfl]
 walk_at "rd"
 obtain ⟨a, dx, la, wa, ls, ws, rfl, h1, h2, h3, h4, h5, h6⟩ := id hT
 refine ⟨a, rfl, dx, _, h1, rfl, .ref a, rs, k, rfl, hT, fun _ => ?_, fun z => z hin⟩
 obtain ⟨k', hk'⟩ : ∃ k' : Nat, k = (k' : Int) := ⟨k.toNat, by unfold inR at hin; omega⟩
 subst hk'
 simp only [Zdi, ZhC]
 walk_at "rd"
 refine ⟨dx, _, h1, rfl, .ref a, rs, rfl, hT, _, rfl, by omega, by omega, ?_⟩
 rw [show ZbK [some (V.ref a), some (V.int (k' : Int))] [0, 1] = [some (V.ref a), some (V.int (k' : Int))] from rfl, show ((rs.length : Int) + 1).toNat = rs.length + 1 by omega]
 refine Zg0 (fun acc i ys H' => Same H H' ∧ H' acc = some (.lst ys) ∧ ys = Zbf ((List.range i).filter fun j => decide (k' ∈ wayL rs j)) ∧ i ≤ rs.length + 1) (fun acc H2 hn sm e => ⟨sm, e, rfl, by omega⟩) (fun acc i ys H2 ⟨_, e, ey, hi⟩ => ⟨e, ?_⟩) (fun acc i ys H2 os hn hi hP ol => ?_) (fun acc ys H2 hn hP => ?_)
 ·rw [ey]
  have := List.length_filter_le (fun j => decide (k' ∈ wayL rs j)) (List.range i)
  simp [Zbf] at this ⊢
  omega
 ·obtain ⟨sm, e, ey, hi2⟩ := hP
  obtain ⟨o, rfl⟩ : ∃ o, os = [o] := by match os, ol with | [o], _ => exact ⟨o, rfl⟩
  have hlt : i < ws.length := by omega
  obtain ⟨p, w, e5, e6, e7, e8⟩ := h6 i _ (List.getElem?_eq_getElem hlt)
  walk_at "rd"
  refine ⟨[some (.int (i : Int))], rfl, rfl, ?_⟩
  simp only [rIn]
  walk_at "rd"
  refine ⟨CT, dx, _, sm _ _ h1, cls_Tree, nf_ways, .ref wa, rfl, wa, rfl, ws, sm _ _ h4, _, ZaE (List.getElem?_eq_getElem hlt), p, e5, Zbf w, .inl (.of (sm _ _ e6)), rfl, ZeD, ?_⟩
  rw [Zf4]
  have ew : wayL rs i = w := Zb9 e7
  refine Ze9 (fun c => ⟨e, Zam hn sm, upd_same, ?_, by omega⟩) (fun c => ⟨sm, e, ?_, by omega⟩)
  ·rw [List.range_succ, List.filter_append, List.filter_cons_of_pos (by show decide (k' ∈ wayL rs i) = true; rw [ew]; exact c), List.filter_nil, ey]
   simp [Zbf]
  ·rw [List.range_succ, List.filter_append, List.filter_cons_of_neg (by show ¬ decide (k' ∈ wayL rs i) = true; rw [ew]; exact c), List.filter_nil, List.append_nil, ey]
 ·obtain ⟨sm, e, ey, hi2⟩ := hP
  subst ey
  exact q1 acc H2 k' rfl hin hn sm e
end
section
variable {P : Program} {w : World} {K : PySem.W.Frag} {mg : Str → Option Value} {base : Heap} {f : Addr} {fd : FuncData} {CT CNP : Addr}
def ZdV (C CNP : Addr) : Sp := fun vs H Q E => ∃ x rs k, vs = [x, .int k] ∧ TreeV C H x rs ∧ (∀ (k' : Nat) r y, k = (k' : Int) + 1 → rs[k']? = some r → RatV H y r.2 → Q y H) ∧ (¬ inR rs k → E (.ref CNP) none H)
theorem Zh7 (F : Fun K "price" "Tree.price" ZaI f fd) (cls_Tree : Cls K CT) (nf_lanes : NoAttr K CT "lanes")
  (M_look_road : Mth P w K mg base CX0 3 CT "look_road" ["self", "k"] (fun vs H Q _ => Ze0 CT CNP vs H Q E0)) : FnOk P w K mg base CX0 4 f fd ["self", "k"] (fun vs H Q _ => ZdV CT CNP vs H Q E0) := by
 refine okQ F Ze7 (fun vs H Q E h => ?_) (fun cdv A outer s H vs Q E hr h => ?_)
 ·obtain ⟨x, rs, k, rfl, _⟩ := h; rfl
 obtain ⟨x, rs, k, rfl, hT, q1, q2⟩ := h
 have hin : inR rs k := Classical.byContradiction fun z => q2 z
 refine ⟨_, (Zac (Zbt (Zcv M_look_road hr (by decide) (q_v 0) (a_c (q_v 1) Zab)))
   (Zai (Zay (ZaJ (Zcf (q_fld (q_v 0)) (Zc3 (q_v 1) Zad)) Zad)))), ?_⟩
 rw [show Zav ["self", "k"] [x, .int k] = [some (x), some (.int k)] from rfl]
 walk_at "rd"
 obtain ⟨a, dx, la, wa, ls, ws, rfl, h1, h2, h3, _⟩ := id hT
 refine ⟨a, rfl, dx, _, h1, rfl, .ref a, rs, k, rfl, hT, fun _ => ?_, fun z => z hin⟩
 obtain ⟨k', hk'⟩ : ∃ k' : Nat, k = (k' : Int) + 1 := ⟨(k - 1).toNat, by unfold inR at hin; omega⟩
 subst hk'
 have hl := h3.1
 have hlr : k' < rs.length := by unfold inR at hin; omega
 have hls : k' < ls.length := by omega
 obtain ⟨p, y, e, e2, e3⟩ := h3.2 k' _ _ (List.getElem?_eq_getElem hls) (List.getElem?_eq_getElem hlr)
 refine ⟨a, rfl, CT, dx, _, h1, cls_Tree, nf_lanes, .ref la, rfl, la, rfl, ls, h2, _, ?_, p, e, _, e2, _, rfl, q1 k' _ y rfl (List.getElem?_eq_getElem hlr) e3⟩
 rw [show (k' : Int) + 1 - 1 = (k' : Int) by omega]
 exact ZaE (List.getElem?_eq_getElem hls)
end
def Ze2 : Sp := fun vs H Q _ => ∃ c m : Int, vs = [.int c, .int m] ∧ 0 ≤ m ∧ m < 100 ∧ ∀ p H' (ss : List Str), H p = none → Same H H' → H' p = some (.lst (ss.map V.str)) → (ss.length : Int) = m → (∀ x y, ss[0]? = some x → ss[1]? = some y → x ≠ y) → Q (.ref p) H'
def dlt (c : Int) : Int := if c / 512 % 2 = 0 then 1 else 25
theorem dlt_at {c x : Int} (h : atI [V.int 1, V.int 25] (c / 512 % 2) = some (.int x)) : x = dlt c := by
 unfold dlt
 rcases (by omega : c / 512 % 2 = 0 ∨ c / 512 % 2 = 1) with e | e
 ·rw [e] at h
  rw [if_pos e]
  have : some (V.int 1) = some (V.int x) := h
  cases this
  rfl
 ·rw [e] at h
  rw [if_neg (by omega)]
  have : some (V.int 25) = some (V.int x) := h
  cases this
  rfl
theorem ZhV {c ch : Int} {n : Nat} (h0 : atI (Str.ofString "abcdefghijklmnopqrstuvwxyz").cps.toList ((ch + ((0 : Nat) : Int) * dlt c) % 26) = some n) (h1 : atI (Str.ofString "abcdefghijklmnopqrstuvwxyz").cps.toList ((ch + ((1 : Nat) : Int) * dlt c) % 26) = some n) : False := by
 have e : (Str.ofString "abcdefghijklmnopqrstuvwxyz").cps.toList = List.range' 97 26 := by decide +kernel
 rw [e] at h0 h1
 have hd : dlt c = 1 ∨ dlt c = 25 := by unfold dlt; split <;> simp
 have at_ : ∀ j : Int, 0 ≤ j → j < 26 → atI (List.range' 97 26) j = some (97 + j.toNat) := fun j g0 g1 => by
  obtain ⟨k, rfl⟩ : ∃ k : Nat, j = (k : Int) := ⟨j.toNat, by omega⟩
  refine ZaE ?_
  rw [List.getElem?_range' (by omega)]
  simp
 rw [at_ _ (by omega) (by omega)] at h0 h1
 injection h0 with h0
 injection h1 with h1
 rcases hd with hd | hd <;> rw [hd] at h0 h1 <;> omega
def ones (ss : List Str) : Prop := ∀ z ∈ ss, z.length = 1
theorem ZgO : ∀ {ss : List Str}, ones ss → ∀ {k ch : Nat}, ss[k]? = some ⟨#[ch]⟩ → (Str.join (Str.ofString "") ss).cps.toList[k]? = some ch
 | [], _, k, ch, h => by simp at h
 | [x], _, k, ch, h => by
  match k, h with
  | 0, h => cases h; rfl
 | x :: y :: ss, ho, k, ch, h => by
  have hx := ho x (.head _)
  obtain ⟨c, hc⟩ : ∃ c, x.cps.toList = [c] := List.length_eq_one_iff.mp (by simpa [Str.length] using hx)
  have ej : (Str.join (Str.ofString "") (x :: y :: ss)).cps.toList = c :: (Str.join (Str.ofString "") (y :: ss)).cps.toList := by
   show ((x.cps ++ (Str.ofString "").cps) ++ (Str.join (Str.ofString "") (y :: ss)).cps).toList = _
   rw [Array.toList_append, Array.toList_append, hc]
   rfl
  rw [ej]
  match k, h with
  | 0, h =>
   cases h
   simp at hc
   simp [hc]
  | k + 1, h => exact ZgO (fun z hz => ho z (.tail _ hz)) h
theorem join_at {ss : List Str} (ho : ones ss) {k ch : Nat} (h : ss[k]? = some ⟨#[ch]⟩) (z : Str) : (Txt.join (Str.ofString "") ss ++ z).cps.toList[k]? = some ch := by
 have e : Txt.join (Str.ofString "") ss = Str.join (Str.ofString "") ss := StrLaws.glued_eq_join _ _
 rw [e]
 have h1 := ZgO ho h
 show ((Str.join (Str.ofString "") ss).cps ++ z.cps).toList[k]? = some ch
 rw [Array.toList_append, List.getElem?_append_left (List.getElem?_eq_some_iff.mp h1).1]
 exact h1
section
variable {P : Program} {w : World} {K : PySem.W.Frag} {mg : Str → Option Value} {base : Heap} {f : Addr} {fd : FuncData} {CT CNP : Addr}
theorem Zg9 : ∀ {ss : List Str}, ones ss → (ss.map (·.length)).sum = ss.length
 | [], _ => rfl
 | z :: ss, h => by
  rw [List.map_cons, List.sum_cons, h z (List.mem_cons_self ..), Zg9 fun y hy => h y (List.mem_cons_of_mem _ hy), List.length_cons, Nat.add_comm]
theorem ZjO : (Str.ofString "abcdefghijklmnopqrstuvwxyz").length = 26 := by decide +kernel
theorem abc_at {i : Int} (h0 : 0 ≤ i) (h1 : i < 26) : ∃ c, atI (Str.ofString "abcdefghijklmnopqrstuvwxyz").cps.toList i = some c := by
 obtain ⟨k, rfl⟩ : ∃ k : Nat, i = (k : Int) := ⟨i.toNat, by omega⟩
 have hl : (Str.ofString "abcdefghijklmnopqrstuvwxyz").cps.toList.length = 26 := by decide +kernel
 have hk : k < (Str.ofString "abcdefghijklmnopqrstuvwxyz").cps.toList.length := by omega
 exact ⟨_, ZaE (List.getElem?_eq_getElem hk)⟩
def Pnm1 (H0 : Hp) (c m : Int) (p : Addr) (i : Nat) (σ : St) (H : Hp) : Prop := ∃ (r : Int) (o : Option V) (ss : List Str), σ = [some (.int c), some (.int m), some (.str (Str.ofString "abcdefghijklmnopqrstuvwxyz")), some (.ref p), some (.int r), o, none, none, none, none, none] ∧ Same H0 H ∧ H p = some (.lst (ss.map V.str)) ∧ ss.length = i ∧ ones ss
def Pnm2 (H0 : Hp) (c m at0 : Int) (k : Nat) (p pn : Addr) (ss : List Str) (i : Nat) (σ : St) (H : Hp) : Prop := ∃ (r a0 : Int) (o1 o2 o3 : Option V) (ns : List Str), σ = [some (.int c), some (.int m), some (.str (Str.ofString "abcdefghijklmnopqrstuvwxyz")), some (.ref p), some (.int r), o1, some (.int (k : Int)), some (.int a0), some (.ref pn), o2, o3] ∧
 Same H0 H ∧ H p = some (.lst (ss.map V.str)) ∧ H pn = some (.lst (ns.map V.str)) ∧ ns.length = i ∧ a0 = at0 + (i : Int) * dlt c ∧ ∀ (t : Nat) z, ns[t]? = some z → ∃ ch, atI (Str.ofString "abcdefghijklmnopqrstuvwxyz").cps.toList ((at0 + (t : Int) * dlt c) % 26) = some ch ∧ z.cps.toList[k]? = some ch
theorem ok_names (F : Fun K "_law_names_by" "_law_names_by" ZaW f fd) (n_range : mg "range" = none) (n_len : mg "len" = none) (n_list : mg "list" = none) : FnOk P w K mg base CX0 1 f fd ["_law_cell", "_law_many"] Ze2 := by
 refine okQ F sc_law_names_by (fun vs H Q E h => ?_) (fun cdv A outer s H vs Q E hr h => ?_)
 ·obtain ⟨c, m, rfl, _⟩ := h; rfl
 obtain ⟨c, m, rfl, hm0, hm1, q⟩ := h
 refine ⟨_, (Zac (Zap 2 sc_law_names_by.nd Zfq)
   (Zac (Zap 3 sc_law_names_by.nd (Zdc Zab))
   (Zac (Zap 4 sc_law_names_by.nd (ZbH (q_v 0) Zad))
   (Zac (ZbQ PassesOwn.never (ZdY rfl n_range (a_c (ZbG Zad (Za7 (q_v 0) Zad)) Zab)) (Zar 5 sc_law_names_by.nd) (Zac (Zbt (ZeM (q_v 3) (a_c (q_ixX (q_v 2) (Za7 (q_v 4) Zad)) Zab)))
   (Zai (Zap 4 sc_law_names_by.nd (ZbH (q_v 4) Zad)))))
   (Zac (Zap 6 sc_law_names_by.nd (Za7 (ZbH (q_v 0) Zad) (ZbS rfl n_len (a_c (q_v 3) Zab))))
   (Zac (Zap 7 sc_law_names_by.nd (q_find (q_v 2) (a_c (Zcf (q_v 3) (q_v 6)) Zab)))
   (Zac (Zap 8 sc_law_names_by.nd (Zdc Zab))
   (Zac (ZbQ PassesOwn.never (ZdY rfl n_range (a_c (q_v 1) Zab)) (Zar 5 sc_law_names_by.nd) (Zac (Zap 9 sc_law_names_by.nd (ZfI rfl n_list (a_c (q_v 3) Zab)))
   (Zac (s_asg (q_ixX (q_v 2) (Za7 (q_v 7) Zad)) (ZkE (q_v 9) (q_v 6)))
   (Zac (Zap 7 sc_law_names_by.nd (ZbG (q_v 7) (Zcf (Zdc (a_c Zad (a_c Zad Zab))) (Za7 (ZbH (q_v 0) Zad) Zad))))
   (Zac (Zap 10 sc_law_names_by.nd (Za7 (Zbi (q_v 5) (Za7 (ZbH (q_v 0) Zad) Zad)) (Zc3 Zad (ZbS rfl n_len (a_c (q_v 3) Zab)))))
   (Zai (Zbt (ZeM (q_v 8) (a_c (q_addS (q_join Zfq (a_c (q_v 9) Zab)) (q_cutX Zfq (q_v 10))) Zab)))))))))
   (Zai (Zay (q_v 8))))))))))), ?_⟩
 rw [show Zav ["_law_cell", "_law_many", "_law_some", "_law_word", "_law_rest", "_law_k", "_law_spot", "_law_at", "_law_names", "_law_made", "_law_more"] [.int c, .int m] = [some (.int c), some (.int m), none, none, none, none, none, none, none, none, none] from rfl]
 walk_at "rd"
 simp only [ZcV]
 walk_at "rd"
 intro p H1 hp s1 e1
 have hc8 : 0 ≤ c % 8 ∧ c % 8 < 8 := ⟨by omega, by omega⟩
 refine ⟨by omega, by omega, ?_⟩
 refine Zd7 (Pnm1 H c m p) ⟨c / 64, none, [], rfl, s1, e1, rfl, fun z hz => by cases hz⟩ (fun i σ H2 hi hP => ?_) (fun σ H2 hP => ?_)
 ·obtain ⟨r, o, ss, rfl, s2, e2, hl, h1⟩ := hP
  obtain ⟨ch, hch⟩ := abc_at (i := r % 26) (by omega) (by omega)
  walk_at "rd"
  simp only [e2]
  walk_at "rd"
  refine ⟨by rw [ZjO]; decide, ch, hch, by simp; omega, _, _, ss ++ [⟨#[ch]⟩], rfl, Zam hp s2, by rw [upd_same]; simp, by simp [hl], fun z hz => ?_⟩
  rcases List.mem_append.mp hz with z1 | z1
  ·exact h1 z z1
  ·rw [List.mem_singleton.mp z1]; rfl
 ·obtain ⟨r, o, ss, rfl, s2, e2, hl, h1⟩ := hP
  walk_at "rd"
  simp only [e2]
  walk_at "rd"
  have hl2 : (ss.length : Int) = 1 + c % 8 := by omega
  rw [List.length_map]
  have hpos : 0 < (ss.length : Int) := by omega
  have g0 := Int.emod_nonneg (c / 8) (b := (ss.length : Int)) (by omega)
  have g1 := Int.emod_lt_of_pos (c / 8) hpos
  obtain ⟨k, ek⟩ : ∃ k : Nat, c / 8 % (ss.length : Int) = (k : Int) := ⟨(c / 8 % (ss.length : Int)).toNat, by omega⟩
  rw [ek]
  have hk : k < ss.length := by omega
  refine ⟨hpos, V.str ss[k], ZaE (by rw [List.getElem?_map, List.getElem?_eq_getElem hk]; rfl), _, rfl, fun pn H3 hpn s3 e3 => ?_⟩
  generalize Txt.find _ _ = at0
  have hne : p ≠ pn := Zaj e2 hpn
  simp only [ZcV]
  walk_at "rd"
  refine ⟨by omega, by omega, ?_⟩
  refine Zd7 (Pnm2 H c m at0 k p pn ss) ⟨_, at0, _, _, _, [], rfl, s2.trans s3, s3 _ _ e2, e3, rfl, by simp, fun t z h => by simp at h⟩ (fun i σ H4 hi hP => ?_) (fun σ H4 hP => ?_)
  ·obtain ⟨r, a0, o1, o2, o3, ns, rfl, s4, e4, e5, hns, ha0, hch0⟩ := hP
   obtain ⟨ch, hch⟩ := abc_at (i := a0 % 26) (by omega) (by omega)
   walk_at "rd"
   simp only [Zhv]
   walk_at "rd"
   refine ⟨_, .inl (.of e4), fun pm H5 hpm s5 e6 => ?_⟩
   have hpm2 : pm ≠ p := fun z => by rw [z, e4] at hpm; cases hpm
   have hpm3 : pm ≠ pn := fun z => by rw [z, e5] at hpm; cases hpm
   refine ⟨by rw [ZjO]; decide, ch, hch, _, e6, k, ZgJ (by simpa using hk), fun pl H6 hpl s6 e7 => ⟨_, e7, ?_⟩⟩
   have hmap : (ss.map V.str).set k (V.str ⟨#[ch]⟩) = (ss.set k ⟨#[ch]⟩).map V.str := by rw [List.map_set]
   rw [hmap] at s6 hpl
   have h1' : ones (ss.set k ⟨#[ch]⟩) := fun z hz => by
    rcases List.mem_or_eq_of_mem_set hz with z1 | z1
    ·exact h1 z z1
    ·rw [z1]; rfl
   have hsum := Zg9 h1'
   have hsl : (ss.set k ⟨#[ch]⟩).length = ss.length := List.length_set
   have kp : ∀ b o, b ≠ pm → H5 b = some o → H6 b = some o := fun b o hb e => s6 _ _ (by rw [Zae hb]; exact e)
   have e8 : H6 pm = some (.lst ((ss.set k ⟨#[ch]⟩).map V.str)) := s6 _ _ upd_same
   have e9 : H6 p = some (.lst (ss.map V.str)) := kp _ _ (Ne.symm hpm2) (s5 _ _ e4)
   have e10 : H6 pn = some (.lst (ns.map V.str)) := kp _ _ (Ne.symm hpm3) (s5 _ _ e5)
   obtain ⟨v, hv, hvm⟩ := atI_mem (xs := [V.int 1, V.int 25]) (i := c / 512 % 2) (by omega) (by show c / 512 % 2 < 2; omega)
   have hvi : ∃ x, v = V.int x := by
    simp only [List.mem_cons, List.not_mem_nil, or_false] at hvm
    rcases hvm with rfl | rfl
    ·exact ⟨_, rfl⟩
    ·exact ⟨_, rfl⟩
   obtain ⟨x, rfl⟩ := hvi
   have hxd : x = dlt c := dlt_at hv
   refine ⟨_, hv, x, rfl, CMul.ok (.inr ⟨by omega, by omega⟩), _, .inl e9, by rw [List.length_map]; omega, ⟨_, e10⟩, _, e8, by decide, by rw [hsum, hsl]; omega, by decide, ?_, _, e10, by rw [List.length_map]; omega, _, _, _, _, _, ns ++ [_], rfl, Zam (s2.free hpn) ?_, by rw [Zae hne]; exact e9, by rw [upd_same, List.map_append]; rfl, by simp [hns], by rw [hxd, ha0]; show at0 + (i : Int) * dlt c + dlt c = at0 + ((i + 1 : Nat) : Int) * dlt c; rw [Int.natCast_add, Int.add_mul]; omega, fun t z ht => ?_⟩
   ·refine Nat.le_trans (Nat.add_le_add (Zlh _ _) (Txt.slice_le _ _ _)) ?_
    rw [hsum, hsl]
    rw [show (Str.ofString "").length = 0 from rfl, show (Str.ofString "qqqqqqq").length = 7 by decide +kernel, Nat.mul_zero, Nat.add_zero]
    exact Nat.le_trans (show ss.length + 7 ≤ 1000 by omega) (by decide)
   ·exact fun b o e => kp _ _ (Zaj (s4 _ _ e) hpm) (s5 _ _ (s4 _ _ e))
   ·by_cases ct : t < ns.length
    ·rw [List.getElem?_append_left ct] at ht
     exact hch0 t z ht
    ·have hti : t = ns.length := by have := (List.getElem?_eq_some_iff.mp ht).1; simp at this; omega
     subst hti
     rw [List.getElem?_append_right (Nat.le_refl _), Nat.sub_self] at ht
     have ht := (Option.some.inj ht).symm
     refine ⟨ch, by rw [hns, ← ha0]; exact hch, ?_⟩
     rw [ht]
     exact join_at h1' (by rw [List.getElem?_set_self hk]) _
  ·obtain ⟨r, a0, o1, o2, o3, ns, rfl, s4, e4, e5, hns, ha0, hch0⟩ := hP
   walk_at "rd"
   refine q pn H4 ns (s2.free hpn) s4 e5 (by omega) fun x y hx hy e => ?_
   subst e
   obtain ⟨c0, f0, g0⟩ := hch0 0 x hx
   obtain ⟨c1, f1, g1⟩ := hch0 1 x hy
   rw [g0] at g1
   cases g1
   exact ZhV f0 f1
end
section
variable {P : Program} {w : World} {K : PySem.W.Frag} {mg : Str → Option Value} {base : Heap} {f : Addr} {fd : FuncData} {CT CNP : Addr}
def HomesV (kvs : List (Key × V)) (n : Nat) : Prop := ∀ kv ∈ kvs, ∃ (z : Str) (h : Nat), kv = (Sum.inr z, .int (h : Int)) ∧ h ≤ n
theorem HomesV.put {kvs : List (Key × V)} {n : Nat} (h : HomesV kvs n) {z : Str} {k : Nat} (hk : k ≤ n) : HomesV (Zbr kvs (Sum.inr z) (.int (k : Int))) n := by
 unfold Zbr
 split
 ·intro kv hkv
  obtain ⟨kv', h1, rfl⟩ := List.mem_map.mp hkv
  split
  ·rename_i e
   exact ⟨z, k, by rw [e], hk⟩
  ·exact h _ h1
 ·intro kv hkv
  rcases List.mem_append.mp hkv with h1 | h1
  ·exact h _ h1
  ·rw [List.mem_singleton.mp h1]
   exact ⟨z, k, rfl, hk⟩
theorem Zir {kvs : List (Key × V)} (h : (kvs.map (·.1)).Nodup) (k : Key) (v : V) : ((Zbr kvs k v).map (·.1)).Nodup := by
 unfold Zbr
 split
 ·rw [List.map_map]
  have : ((fun kv : Key × V => kv.1) ∘ fun kv => if kv.1 = k then (kv.1, v) else kv) = fun kv => kv.1 := by
   funext kv
   show (if kv.1 = k then (kv.1, v) else kv).1 = kv.1
   split <;> rfl
  rw [this]
  exact h
 ·rename_i c
  rw [List.map_append]
  refine List.nodup_append.mpr ⟨h, by simp, fun x hx y hy => ?_⟩
  simp only [List.map_cons, List.map_nil, List.mem_singleton] at hy
  subst hy
  intro e
  subst e
  obtain ⟨kv, h1, h2⟩ := List.mem_map.mp hx
  exact c (List.any_eq_true.mpr ⟨kv, h1, by rw [h2]; simp⟩)
end
section
variable {P : Program} {w : World} {K : PySem.W.Frag} {mg : Str → Option Value} {base : Heap} {f : Addr} {fd : FuncData} {CT CNP : Addr}
theorem put_keep {kvs : List (Key × V)} {k k' : Key} {v : V} (h : k' ∈ kvs.map (·.1)) : k' ∈ (Zbr kvs k v).map (·.1) := by
 unfold Zbr
 split
 ·rw [List.map_map]
  obtain ⟨kv, h1, h2⟩ := List.mem_map.mp h
  refine List.mem_map.mpr ⟨kv, h1, ?_⟩
  show (if kv.1 = k then (kv.1, v) else kv).1 = k'
  split <;> exact h2
 ·rw [List.map_append]
  exact List.mem_append_left _ h
theorem put_has {kvs : List (Key × V)} {k : Key} {v : V} : k ∈ (Zbr kvs k v).map (·.1) := by
 unfold Zbr
 split
 ·rename_i c
  obtain ⟨kv, h1, h2⟩ := List.any_eq_true.mp c
  have h2 : kv.1 = k := by simpa using h2
  rw [List.map_map]
  refine List.mem_map.mpr ⟨kv, h1, ?_⟩
  show (if kv.1 = k then (kv.1, v) else kv).1 = k
  split <;> exact h2
 ·rw [List.map_append]
  exact List.mem_append_right _ (by simp)
theorem ZkY {kvs : List (Key × V)} {ss : List Str} (h : ∀ z ∈ ss, (Sum.inr z : Key) ∈ kvs.map (·.1)) (hl : 2 ≤ ss.length) (hd : ∀ x y, ss[0]? = some x → ss[1]? = some y → x ≠ y) : 2 ≤ kvs.length := by
 have h0 := h _ (List.getElem_mem (show 0 < ss.length by omega))
 have h1 := h _ (List.getElem_mem (show 1 < ss.length by omega))
 have hne := hd _ _ (List.getElem?_eq_getElem (show 0 < ss.length by omega)) (List.getElem?_eq_getElem (show 1 < ss.length by omega))
 match kvs, h0, h1 with
 | [], h0, _ => cases h0
 | [kv], h0, h1 =>
  simp at h0 h1
  rw [← h0] at h1
  injection h1 with h1
  exact absurd h1.symm hne
 | _ :: _ :: _, _, _ => simp
def Zfk (K : PySem.W.Frag) : Sp := fun vs H Q _ => ∃ (a : Addr) (ns : List Int) (n : Nat), vs = [.ref a, .int ((n : Int) + 1)] ∧ SqL K H a (ns.map V.int) ∧
 ∀ p H' kvs o, H p = none → Same H H' → H' p = some (.frz o (.dK kvs)) → HomesV kvs n → (kvs.map (·.1)).Nodup → kvs.length ≤ 12 → 2 ≤ kvs.length → Q (.ref p) H'
def Phm (H0 : Hp) (a p pn : Addr) (n : Nat) (hd : Int) (ss : List Str) (nums : List Int) (pq : Addr) (i : Nat) (σ : St) (H : Hp) : Prop := ∃ (o1 o2 : Option V) (kvs : List (Key × V)), σ = [some (.ref a), some (.int ((n : Int) + 1)), some (.int hd), some (.ref pn), some (.ref p), o1, o2] ∧ Same H0 H ∧ H p = some (.dK kvs) ∧ HomesV kvs n ∧ (kvs.map (·.1)).Nodup ∧ kvs.length ≤ i ∧ (∀ z ∈ ss.take i, (Sum.inr z : Key) ∈ kvs.map (·.1)) ∧
 H pn = some (.lst (ss.map V.str)) ∧ H pq = some (.lst (nums.map V.int))
theorem Zi8 (F : Fun K "_law_homes_by" "_law_homes_by" ZaX f fd) (n_zip : mg "zip" = none) (n_len : mg "len" = none) (F_law_cell_at : Fn P w K mg base CX0 1 "_law_cell_at" ["_law_script", "_law_k"] (Zb5 K)) (F_law_names_by : Fn P w K mg base CX0 1 "_law_names_by" ["_law_cell", "_law_many"] Ze2)
  (F_law_numbers : Fn P w K mg base CX0 2 "_law_numbers" ["_law_cell", "_law_many", "_law_most"] Zbd) : FnOk P w K mg base CX0 3 f fd ["_law_script", "_law_many"] (Zfk K) := by
 refine okQ F sc_law_homes_by (fun vs H Q E h => ?_) (fun cdv A outer s H vs Q E hr h => ?_)
 ·obtain ⟨a, ns, n, rfl, _⟩ := h; rfl
 obtain ⟨a, ns, n, rfl, hS, q⟩ := h
 refine ⟨_, (Zac (Zap 2 sc_law_homes_by.nd (ZaY F_law_cell_at hr (by decide) rfl (a_c (q_v 0) (a_c Zad Zab))))
   (Zac (Zap 3 sc_law_homes_by.nd (ZaY F_law_names_by hr (by decide) rfl (a_c (ZbH (q_v 2) Zad) (a_c (ZbG Zad (Za7 (q_v 2) Zad)) Zab))))
   (Zac (Zap 4 sc_law_homes_by.nd Zis)
   (Zac (ZbQ PassesOwn.never (i_zip rfl n_zip (a_c (q_v 3) (a_c (ZaY F_law_numbers hr (by decide) rfl (a_c (ZaY F_law_cell_at hr (by decide) rfl (a_c (q_v 0) (a_c Zad Zab))) (a_c (ZbS rfl n_len (a_c (q_v 3) Zab)) (a_c Zad Zab)))) Zab))) (Zhh (n := 2) (Zbq (Zar 5 sc_law_homes_by.nd) (Zbq (Zar 6 sc_law_homes_by.nd) Zew))) (Zai (Zd9 (ZbL hr) (q_v 4) (q_v 5) (Za7 (q_v 6) (q_v 1)))))
   (b_frz 4 (Zai (Zay (q_v 4)))))))), ?_⟩
 rw [show Zav ["_law_script", "_law_many", "_law_head", "_law_names", "_law_homes", "_law_name", "_law_number"] [.ref a, .int ((n : Int) + 1)] = [some (.ref a), some (.int ((n : Int) + 1)), none, none, none, none, none] from rfl]
 walk_at "rd"
 simp only [Zb5, Ze2, Zbd, ZgA]
 walk_at "rd"
 refine ⟨ns, 4, rfl, hS, by omega, by omega, fun pn H1 ss hpn s1 e1 hsl hdis p H2 hp s2 e2 => ?_⟩
 refine ⟨a, ns, 5, rfl, (s1.trans s2).seq hS, _, .inl (s2 _ _ e1), _, _, _, rfl, by omega, by rw [List.length_map]; omega, by decide, by decide, fun pq H3 nums hpq s3 e3 hnl hnb => ?_⟩
 rw [List.length_map] at hnl
 have hpp : p ≠ pn := fun z => by rw [z, e1] at hp; cases hp
 have hpqp : pq ≠ p := fun z => by rw [z, e2] at hpq; cases hpq
 have hfr : H p = none := s1.free hp
 refine ZiH (xs := ss.map V.str) (ys := nums.map V.int) (by simp; omega) (Phm H a p pn n (cellOf ns 4) ss nums pq) ⟨_, _, [], rfl, s1.trans (s2.trans s3), s3 _ _ e2, (fun kv hkv => by cases hkv), List.nodup_nil, Nat.le_refl _, (fun z hz => by simp at hz), (s2.trans s3) _ _ e1, e3⟩
  (fun i σ H4 _ ⟨_, _, _, _, _, _, _, _, _, _, g1, g2⟩ => ⟨.of g1, .of g2⟩) (fun i x y σ H4 pt H5 hx hy hP hpt s5 e5 => ?_) (fun σ H4 hP => ?_)
 ·obtain ⟨o1, o2, kvs, rfl, s4, e4, hH, hN, hkl, hmm, g3, g4⟩ := hP
  obtain ⟨z, hzi, rfl⟩ : ∃ z, ss[i]? = some z ∧ x = V.str z := by rw [List.getElem?_map] at hx; cases h : ss[i]? with | none => rw [h] at hx; cases hx | some z => rw [h] at hx; cases hx; exact ⟨z, rfl, rfl⟩
  obtain ⟨v, rfl⟩ : ∃ v, y = V.int v := by rw [List.getElem?_map] at hy; cases h : nums[i]? with | none => rw [h] at hy; cases hy | some z => rw [h] at hy; cases hy; exact ⟨z, rfl⟩
  have hi : i < ss.length := by have := (List.getElem?_eq_some_iff.mp hx).1; simpa using this
  walk_at "rd"
  have w0 := Int.emod_nonneg v (b := (n : Int) + 1) (by omega)
  have w1 := Int.emod_lt_of_pos v (b := (n : Int) + 1) (by omega)
  obtain ⟨k, ek⟩ : ∃ k : Nat, v % ((n : Int) + 1) = (k : Int) := ⟨(v % ((n : Int) + 1)).toNat, by omega⟩
  refine ⟨_, e5, rfl, _, _, rfl, _, _, rfl, rfl, v, rfl, by omega, kvs, s5 _ _ e4, .inr z, rfl, by omega, _, _, Zbr kvs (.inr z) (.int (v % ((n : Int) + 1))), rfl, Zam hfr (s4.trans s5), upd_same, ?_, Zir hN _ _, Nat.le_trans (Zcz _ _ _) (by omega), (fun y hy => by rw [List.take_add_one, hzi, List.mem_append] at hy; rcases hy with hy | hy; exact put_keep (hmm y hy); exact (show y = z by simpa using hy) ▸ put_has), by rw [Zae (Ne.symm hpp)]; exact s5 _ _ g3, by rw [Zae hpqp]; exact s5 _ _ g4⟩
  rw [ek]
  exact hH.put (by omega)
 ·obtain ⟨o1, o2, kvs, rfl, s4, e4, hH, hN, hkl, hmm, g3, g4⟩ := hP
  refine ⟨p, kvs, rfl, e4, fun ob => ?_⟩
  walk_at "rd"
  exact q p _ kvs ob hfr (Zam hfr s4) upd_same hH hN (by rw [List.length_map] at hkl; omega) (by rw [List.length_map, List.take_length] at hmm; exact ZkY hmm (by omega) hdis)
end
def Zcl (kvs : List (Key × V)) (ss : List Str) (hs : List Nat) (n : Nat) : Prop := ss.length = hs.length ∧ ∀ (i : Nat) z h, ss[i]? = some z → hs[i]? = some h → Zdn kvs (Sum.inr z) = some (.int (h : Int)) ∧ h ≤ n
def Zcs (rs : List (Nat × Rat)) (hs : List Nat) (k : Nat) : Prop := ∃ h ∈ hs, ∃ w, WayR rs h w ∧ k ∈ w
theorem Zcy {H H' : Hp} {a : Addr} {u : HO} (h : Rd H a u) (s : Same H H') : Rd H' a u := h.elim (fun e => .inl (s _ _ e)) fun ⟨o, e⟩ => .inr ⟨o, s _ _ e⟩
theorem Zfg {rs : List (Nat × Rat)} {hs : List Nat} {i h : Nat} {w : List Nat} (hh : hs[i]? = some h) (hw : WayR rs h w) (k : Nat) : Zcs rs (hs.take (i + 1)) k ↔ Zcs rs (hs.take i) k ∨ k ∈ w := by
 unfold Zcs
 rw [List.take_add_one, hh]
 constructor
 ·rintro ⟨h', hm, w', hw', hk⟩
  rcases List.mem_append.mp hm with hm | hm
  ·exact .inl ⟨h', hm, w', hw', hk⟩
  ·have e : h' = h := by simpa using hm
   subst e
   rw [hw.uniq hw'] at hk
   exact .inr hk
 ·rintro (⟨h', hm, w', hw', hk⟩ | hk)
  ·exact ⟨h', List.mem_append_left _ hm, w', hw', hk⟩
  ·exact ⟨h, List.mem_append_right _ (by simp), w, hw, hk⟩
section
variable {P : Program} {w : World} {K : PySem.W.Frag} {mg : Str → Option Value} {base : Heap} {f : Addr} {fd : FuncData} {CT CNP : Addr}
def ZdU (C : Addr) : Sp := fun vs H Q _ => ∃ (x : V) (rs : List (Nat × Rat)) (d g : Addr) (kvs : List (Key × V)) (ss : List Str) (hs : List Nat), vs = [x, .ref d, .ref g] ∧ TreeV C H x rs ∧ Rd H d (.dK kvs) ∧ H g = some (.lst (ss.map V.str)) ∧ Zcl kvs ss hs rs.length ∧ rs.length ≤ 40 ∧ ss.length < 50 ∧ Zcx rs ∧
 ∀ p H' (ks : List Nat), H p = none → Same H H' → H' p = some (.lst (Zbf ks)) → ks.Pairwise (· < ·) → (∀ k, k ∈ ks ↔ Zcs rs hs k) → Q (.ref p) H'
def Pnd (H0 : Hp) (x : V) (d g l : Addr) (rs : List (Nat × Rat)) (hs : List Nat) (i : Nat) (σ : St) (H : Hp) : Prop := ∃ (o : Option V) (acc : List Nat), σ = [some x, some (.ref d), some (.ref g), some (.ref l), o] ∧ Same H0 H ∧ H l = some (.lst (Zbf acc)) ∧ acc.length ≤ 40 * i ∧ ∀ k, k ∈ acc ↔ Zcs rs (hs.take i) k
theorem Zjf (F : Fun K "needed" "needed" Zcm f fd) (n_sorted : mg "sorted" = none) (n_set : mg "set" = none) (M_way : Mth P w K mg base CX0 3 CT "way" ["self", "k"] (fun vs H Q _ => Zgm CT CNP vs H Q E0)) : FnOk P w K mg base CX0 4 f fd ["tree", "homes", "group"] (ZdU CT) := by
 refine okQ F sc_needed (fun vs H Q E h => ?_) (fun cdv A outer s H vs Q E hr h => ?_)
 ·obtain ⟨x, rs, d, g, kvs, ss, hs, rfl, _⟩ := h; rfl
 obtain ⟨x, rs, d, g, kvs, ss, hs, rfl, hT, hd, hg, hH, hrl, hsl, hO, q⟩ := h
 refine ⟨_, (Zac (Zap 3 sc_needed.nd (Zdc Zab))
   (Zac (ZbQ PassesOwn.never (Zbm (q_v 2)) (Zar 4 sc_needed.nd) (Zai (Zbt (q_ext (q_v 3) (a_c (Zcv M_way hr (by decide) (q_v 0) (a_c (ZbZ (ZbL hr) (q_v 1) (q_v 4)) Zab)) Zab)))))
   (Zai (Zay (Zid rfl n_sorted rfl n_set (a_c (q_v 3) Zab)))))), ?_⟩
 rw [show Zav ["tree", "homes", "group", "roads", "name"] [x, .ref d, .ref g] = [some (x), some (.ref d), some (.ref g), none, none] from rfl]
 walk_at "rd"
 simp only [Za6]
 walk_at "rd"
 intro l H1 hl s1 e1
 refine Zbl (Pnd H x d g l rs hs) ⟨_, [], rfl, s1, e1, Nat.zero_le _, fun k => ⟨(fun z => by cases z), (fun ⟨h, hm, _⟩ => by simp at hm)⟩⟩ (fun i σ H' _ ⟨_, _, _, sm, _⟩ => .of (sm _ _ hg)) (fun i y σ H' hi hP => ?_) (fun σ H' hP => ?_)
 ·obtain ⟨o, acc, rfl, sm, e2, hal, hm⟩ := hP
  rw [List.getElem?_map] at hi
  obtain ⟨z, hz, rfl⟩ : ∃ z, ss[i]? = some z ∧ y = V.str z := by cases h : ss[i]? with | none => rw [h] at hi; cases hi | some z => rw [h] at hi; cases hi; exact ⟨z, rfl, rfl⟩
  have hi' : i < ss.length := (List.getElem?_eq_some_iff.mp hz).1
  have hih : i < hs.length := by rw [← hH.1]; exact hi'
  have hh := List.getElem?_eq_getElem hih
  obtain ⟨hv, hle⟩ := hH.2 i z _ hz hh
  obtain ⟨w0, hw0, hwl0⟩ := Zcn hO hle
  walk_at "rd"
  obtain ⟨xa, dx, la, wa, ls, ws, rfl, h1, _⟩ := id (hT.same sm)
  refine ⟨⟨_, e2⟩, xa, rfl, dx, _, h1, rfl, kvs, Zcy hd sm, .inr z, rfl, _, hv, .ref xa, rs, _, rfl, hT.same sm, fun p H2 k' w1 ek hp s2 e3 hw1 hwl1 => ?_, fun zz => absurd ⟨by omega, by omega⟩ zz⟩
  have ek' : hs[i] = k' := by omega
  subst ek'
  have ew := hw0.uniq hw1
  subst ew
  refine ⟨p, rfl, _, s2 _ _ e2, _, e3, ?_, _, acc ++ w1, rfl, Zam hl (sm.trans s2), by rw [upd_same]; simp [Zbf], by simp; omega, fun k => ?_⟩
  ·exact Nat.le_trans (show _ ≤ 10000 by simp [Zbf]; omega) (by decide)
  ·rw [Zfg hh hw0 k, List.mem_append, hm k]
 ·obtain ⟨o, acc, rfl, sm, e2, hal, hm⟩ := hP
  walk_at "rd"
  have hss : ss.length = hs.length := hH.1
  rw [List.length_map, hss, List.take_length] at hm
  have hbd : ∀ k ∈ acc, 1 ≤ k ∧ k ≤ rs.length := fun k hk => by
   obtain ⟨h, _, w0, hw, hk2⟩ := (hm k).mp hk
   exact hw.mem k hk2
  refine ⟨acc.map Int.ofNat, by rw [e2]; simp [Zbf], by simp at hal ⊢; omega, fun k hk => ?_, fun p H2 ks hp s2 e3 hpw hmem => ?_⟩
  ·obtain ⟨k', hk', rfl⟩ := List.mem_map.mp hk
   have := hbd k' hk'
   show 0 ≤ (k' : Int) ∧ (k' : Int) < 60
   omega
  ·have hnat : ∀ k ∈ ks, 0 ≤ k := fun k hk => by
    obtain ⟨k', _, rfl⟩ := List.mem_map.mp ((hmem k).mp hk)
    exact Int.natCast_nonneg k'
   have eks : (ks.map Int.toNat).map Int.ofNat = ks := by
    rw [List.map_map]
    conv => rhs; rw [← List.map_id ks]
    exact List.map_congr_left fun k hk => Int.toNat_of_nonneg (hnat k hk)
   refine q p H2 (ks.map Int.toNat) (sm.free hp) (sm.trans s2) ?_ ?_ fun k => ?_
   ·rw [e3]
    conv => lhs; rw [← eks]
    simp [Zbf]
   ·rw [List.pairwise_map]
    exact hpw.imp_of_mem fun ha hb h => by have := hnat _ ha; have := hnat _ hb; omega
   ·rw [← hm k]
    constructor
    ·intro h
     obtain ⟨k', hk', rfl⟩ := List.mem_map.mp h
     obtain ⟨k2, hk2, e⟩ := List.mem_map.mp ((hmem k').mp hk')
     have : k'.toNat = k2 := by rw [← e]; rfl
     rw [this]
     exact hk2
    ·intro h
     exact List.mem_map.mpr ⟨(k : Int), (hmem _).mpr (List.mem_map.mpr ⟨k, h, rfl⟩), rfl⟩
end
section
variable {P : Program} {w : World} {K : PySem.W.Frag} {mg : Str → Option Value} {base : Heap} {f : Addr} {fd : FuncData} {CT CNP : Addr}
def Zah (rs : List (Nat × Rat)) (k : Nat) : Rat := ((rs[k - 1]?).map (·.2)).getD 0
def sumP (rs : List (Nat × Rat)) (ks : List Nat) : Rat := Zfa (ks.map (Zah rs)) ks.length
theorem RatsV.keep {H H' : Hp} {xs : List V} {qs : List Rat} (h : RatsV H xs qs) (s : ∀ b ys, H b = some (.tup ys) → H' b = some (.tup ys)) : RatsV H' xs qs := ⟨h.1, fun i x q h1 h2 => (h.2 i x q h1 h2).keep s⟩
theorem RatsV.snoc {H : Hp} {xs : List V} {qs : List Rat} {x : V} {q : Rat} (h : RatsV H xs qs) (hx : RatV H x q) : RatsV H (xs ++ [x]) (qs ++ [q]) := ⟨by simp [h.1], fun i y r h1 h2 => by
 by_cases c : i < xs.length
 ·rw [List.getElem?_append_left c] at h1
  rw [List.getElem?_append_left (by rw [← h.1]; exact c)] at h2
  exact h.2 i y r h1 h2
 ·have hi : i = xs.length := by have := (List.getElem?_eq_some_iff.mp h1).1; simp at this; omega
  subst hi
  rw [List.getElem?_append_right (Nat.le_refl _)] at h1
  rw [h.1, List.getElem?_append_right (Nat.le_refl _)] at h2
  simp at h1 h2
  subst h1
  subst h2
  exact hx⟩
theorem ZiF {qs : List Rat} {n : Nat} (hn : qs.length = n) (h : ∀ (i : Nat) q, qs[i]? = some q → SzQ 110 q) : ∀ i, i ≤ n → SzQ (111 * i + 1) (Zfa qs i) := by
 intro i
 induction i with
 | zero => intro _; exact Zc9 (by decide)
 | succ i ih =>
  intro hi
  have e := List.getElem?_eq_getElem (show i < qs.length by omega)
  rw [ZcN e]
  exact (ih (by omega)).add (h i _ e) (by omega)
theorem few_of {ks : List Nat} {n : Nat} (h : ks.Pairwise (· < ·)) (hb : ∀ k ∈ ks, 1 ≤ k ∧ k ≤ n) : ks.length ≤ n := by
 have hs : ks ⊆ List.range' 1 n := fun k hk => by
  obtain ⟨h1, h2⟩ := hb k hk
  exact List.mem_range'_1.mpr ⟨h1, by omega⟩
 have hn : ks.Nodup := h.imp fun h e => by rw [e] at h; exact Nat.lt_irrefl _ h
 have := List.Nodup.length_le_of_subset hn hs
 simpa using this
def Ze1 (C : Addr) : Sp := fun vs H Q _ => ∃ (x : V) (rs : List (Nat × Rat)) (d g : Addr) (kvs : List (Key × V)) (ss : List Str) (hs : List Nat), vs = [x, .ref d, .ref g] ∧ TreeV C H x rs ∧ Rd H d (.dK kvs) ∧ H g = some (.lst (ss.map V.str)) ∧ Zcl kvs ss hs rs.length ∧ rs.length ≤ 20 ∧ ss.length < 50 ∧ Zcx rs ∧ (∀ r ∈ rs, SzQ 110 r.2) ∧
 ∀ r H' (ks : List Nat), Same H H' → ks.Pairwise (· < ·) → (∀ k, k ∈ ks ↔ Zcs rs hs k) → RatV H' r (sumP rs ks) → SzQ 2300 (sumP rs ks) → Q r H'
theorem ok_cost (F : Fun K "cost" "cost" Zer f fd) (F_total_of : Fn P w K mg base CX0 4 "total_of" ["some"] (Zdr K)) (F_needed : Fn P w K mg base CX0 4 "needed" ["tree", "homes", "group"] (ZdU CT))
  (M_price : Mth P w K mg base CX0 4 CT "price" ["self", "k"] (fun vs H Q _ => ZdV CT CNP vs H Q E0)) : FnOk P w K mg base CX0 5 f fd ["tree", "homes", "group"] (Ze1 CT) := by
 refine okQ F sc_cost (fun vs H Q E h => ?_) (fun cdv A outer s H vs Q E hr h => ?_)
 ·obtain ⟨x, rs, d, g, kvs, ss, hs, rfl, _⟩ := h; rfl
 obtain ⟨x, rs, d, g, kvs, ss, hs, rfl, hT, hd, hg, hH, hrl, hsl, hO, hz, q⟩ := h
 refine ⟨_, (Zai (Zay (ZaY F_total_of hr (by decide) rfl (a_c (Zen (Zji ["k"] [0] ["tree"]) (Zbm (ZaY F_needed hr (by decide) rfl (a_c (q_v 0) (a_c (q_v 1) (a_c (q_v 2) Zab))))) (by exact fun s H fp => (Zar 0 (show List.Nodup (["k", "tree"] : List Str) from by decide +kernel))) (by exact fun s H fp => (Zcv M_price hr (by decide) (q_v 1) (a_c (q_v 0) Zab)))) Zab)))), ?_⟩
 rw [show Zav ["tree", "homes", "group"] [x, .ref d, .ref g] = [some (x), some (.ref d), some (.ref g)] from rfl]
 walk_at "rd"
 simp only [Zc8, Zeh, cxK]
 walk_at "rd"
 refine ⟨x, rs, d, g, kvs, ss, hs, rfl, hT, hd, hg, hH, by omega, hsl, hO, fun p H1 ks hp s1 e1 hpw hmem => ⟨p, rfl, ⟨_, .of e1⟩, ?_⟩⟩
 rw [show ZbK [some x, some (V.ref d), some (V.ref g)] [0] = [some x] from rfl]
 have hbd : ∀ k ∈ ks, 1 ≤ k ∧ k ≤ rs.length := fun k hk => by
  obtain ⟨h, _, w0, hw, hk2⟩ := (hmem k).mp hk
  exact hw.mem k hk2
 have hkl := few_of hpw hbd
 unfold Zko
 refine Zdv (xs := Zbf ks) (fun acc i ys H' => Same H1 H' ∧ H' acc = some (.lst ys) ∧ RatsV H' ys ((ks.take i).map (Zah rs)) ∧ i ≤ ks.length)
  (fun acc H2 hn sm e => ⟨sm, e, by simpa using Zlv, Nat.zero_le _⟩) (fun acc i ys H2 hn ⟨sm, e, hR, hi⟩ => ⟨e, by rw [hR.1]; simp; omega, .of (sm _ _ e1)⟩) (fun acc i y ys H2 os hn hi hP ol => ?_) (fun acc ys H2 hn hP => ?_)
 ·obtain ⟨sm, e, hR, _⟩ := hP
  obtain ⟨o, rfl⟩ : ∃ o, os = [o] := by match os, ol with | [o], _ => exact ⟨o, rfl⟩
  have hil : i < ks.length := by have := (List.getElem?_eq_some_iff.mp hi).1; simpa [Zbf] using this
  have hk := List.getElem?_eq_getElem hil
  have hy : y = V.int (ks[i] : Int) := by
   unfold Zbf at hi
   rw [List.getElem?_map, hk] at hi
   cases hi
   rfl
  subst hy
  obtain ⟨k1, k2⟩ := hbd _ (List.getElem_mem hil)
  have hT2 := hT.same (s1.trans sm)
  obtain ⟨xa, dx, la, wa, ls, ws, rfl, h1, _⟩ := id hT2
  walk_at "rd"
  refine ⟨[some (.int (ks[i] : Int))], rfl, rfl, ?_⟩
  simp only [tYes]
  walk_at "rd"
  refine ⟨dx, _, h1, rfl, .ref xa, rs, _, rfl, hT2, fun k' r y ek hr2 hy => ⟨e, Zam hn sm, upd_same, ?_, hil⟩, fun zz => absurd ⟨by omega, by omega⟩ zz⟩
  have ek' : ks[i] - 1 = k' := by omega
  have kp : ∀ b zs, H2 b = some (.tup zs) → upd H2 acc (.lst (ys ++ [y])) b = some (.tup zs) := fun b zs e' => by rw [Zae (ZbI e' e (by intro z; cases z))]; exact e'
  have hpr : Zah rs ks[i] = r.2 := by unfold Zah; rw [ek', hr2]; rfl
  rw [List.take_add_one, hk, List.map_append]
  refine (hR.keep kp).snoc ?_
  show RatV _ y (Zah rs ks[i])
  rw [hpr]
  exact hy.keep kp
 ·obtain ⟨sm, e, hR, _⟩ := hP
  have hnl : (Zbf ks).length = ks.length := by simp [Zbf]
  rw [hnl, List.take_length] at hR
  have hq : ∀ (i : Nat) q, (ks.map (Zah rs))[i]? = some q → SzQ 110 q := fun i q hq => by
   rw [List.getElem?_map] at hq
   cases hk : ks[i]? with
   | none => rw [hk] at hq; cases hq
   | some k =>
    rw [hk] at hq
    cases hq
    obtain ⟨k1, k2⟩ := hbd k (List.mem_of_getElem? hk)
    have hlt : k - 1 < rs.length := by omega
    show SzQ 110 (Zah rs k)
    unfold Zah
    rw [List.getElem?_eq_getElem hlt]
    exact hz _ (List.getElem_mem hlt)
  have hps : ∀ i, i ≤ ks.length → SzQ (111 * i + 1) (Zfa (ks.map (Zah rs)) i) := ZiF (by simp) hq
  refine ⟨acc, ys, ks.map (Zah rs), rfl, .of e, hR, lcOk_of hq (by rw [List.length_map]; omega), by rw [List.length_map]; omega, fun r H' s3 v => ?_⟩
  rw [List.length_map] at v
  exact q r H' ks (s1.trans (sm.trans s3)) hpw hmem v ((hps _ (Nat.le_refl _)).mono (by omega))
end
section
variable {P : Program} {w : World} {K : PySem.W.Frag} {mg : Str → Option Value} {base : Heap} {f : Addr} {fd : FuncData} {CT CNP : Addr}
theorem Zhk (F : Fun K "cost_of_all" "cost_of_all" Za3 f fd) (n_list : mg "list" = none) (F_cost : Fn P w K mg base CX0 5 "cost" ["tree", "homes", "group"] (Ze1 CT)) : FnOk P w K mg base CX0 6 f fd ["tree", "homes"] (fun vs H Q E => ∃ (x : V) (d : Addr) (kvs : List (Key × V)), vs = [x, .ref d] ∧ Rd H d (.dK kvs) ∧ ∀ g H', H g = none → Same H H' → H' g = some (.lst (kvs.map fun kv => kV kv.1)) → Ze1 CT [x, .ref d, .ref g] H' Q E) := by
 refine okQ F Zei (fun vs H Q E h => ?_) (fun cdv A outer s H vs Q E hr h => ?_)
 ·obtain ⟨x, d, kvs, rfl, _⟩ := h; rfl
 obtain ⟨x, d, kvs, rfl, hd, q⟩ := h
 refine ⟨_, (Zai (Zay (ZaY F_cost hr (by decide) rfl (a_c (q_v 0) (a_c (q_v 1) (a_c (ZfW rfl n_list (a_c (q_v 1) Zab)) Zab)))))), ?_⟩
 rw [show Zav ["tree", "homes"] [x, .ref d] = [some (x), some (.ref d)] from rfl]
 walk_at "rd"
 exact ⟨d, kvs, rfl, hd, fun g H' hg s e => q g H' hg s e⟩
end
theorem Zba {rs : List (Nat × Rat)} {hs : List Nat} {k : Nat} (h : Zcs rs hs k) : 1 ≤ k ∧ k ≤ rs.length := by
 obtain ⟨_, _, _, hw, hk⟩ := h
 exact hw.mem k hk
theorem inV_str {z : Str} {ss : List Str} : inV (V.str z) (ss.map V.str) = decide (z ∈ ss) := by
 unfold inV
 rw [List.any_map]
 induction ss with
 | nil => simp
 | cons y ss ih =>
  rw [List.any_cons, ih]
  show ((y == z) || _) = _
  by_cases c : y = z
  ·subst c; simp
  ·have : (y == z) = false := by simpa using c
   rw [this, Bool.false_or]
   simp [Ne.symm c]
theorem Zit (ss : List Str) : (ss.map V.str).all Zdb = true := by
 rw [List.all_eq_true]
 intro x hx
 obtain ⟨z, _, rfl⟩ := List.mem_map.mp hx
 rfl
theorem ZkF {kvs : List (Key × V)} {n : Nat} {ss : List Str} (hk : ∀ z ∈ ss, ∃ k : Nat, Zdn kvs (Sum.inr z) = some (.int (k : Int)) ∧ k ≤ n) : ∃ hf : Str → Nat, ∀ gs : List Str, (∀ z ∈ gs, z ∈ ss) → Zcl kvs gs (gs.map hf) n := by
 classical
 refine ⟨fun z => if h : z ∈ ss then (hk z h).choose else 0, fun gs hg => ⟨by simp, fun i z h h1 h2 => ?_⟩⟩
 have hz := hg z (List.mem_of_getElem? h1)
 rw [List.getElem?_map, h1] at h2
 simp only [Option.map_some, Option.some.injEq] at h2
 rw [dif_pos hz] at h2
 subst h2
 exact (hk z hz).choose_spec
theorem Zks {rs : List (Nat × Rat)} {hf : Str → Nat} {gs : List Str} {k : Nat} : Zcs rs (gs.map hf) k ↔ ∃ z ∈ gs, ∃ w, WayR rs (hf z) w ∧ k ∈ w := by
 unfold Zcs
 constructor
 ·rintro ⟨h, hm, w⟩
  obtain ⟨z, hz, rfl⟩ := List.mem_map.mp hm
  exact ⟨z, hz, w⟩
 ·rintro ⟨z, hz, w⟩
  exact ⟨_, List.mem_map.mpr ⟨z, hz, rfl⟩, w⟩
def ZaU (qs : List Rat) : Rat := qs.foldl (· + ·) 0
theorem Zim (qs : List Rat) : ∀ a : Rat, qs.foldl (· + ·) a = a + qs.foldl (· + ·) 0 := by
 induction qs with
 | nil => intro a; exact (Rat.add_zero a).symm
 | cons q qs ih =>
  intro a
  show qs.foldl (· + ·) (a + q) = a + qs.foldl (· + ·) (0 + q)
  rw [ih (a + q), ih (0 + q), Rat.zero_add, Rat.add_assoc]
theorem ZaB (q : Rat) (qs : List Rat) : ZaU (q :: qs) = q + ZaU qs := by
 show qs.foldl (· + ·) (0 + q) = _
 rw [Rat.zero_add, Zim]
 rfl
theorem Zf6 {qs ps : List Rat} (h : qs.Perm ps) : ZaU qs = ZaU ps := by
 induction h with
 | nil => rfl
 | cons x _ ih => rw [ZaB, ZaB, ih]
 | swap x y l => rw [ZaB, ZaB, ZaB, ZaB, ← Rat.add_assoc, ← Rat.add_assoc, Rat.add_comm x y]
 | trans _ _ ih1 ih2 => exact ih1.trans ih2
theorem Zgl {rs : List (Nat × Rat)} {ks : List Nat} : sumP rs ks = ZaU (ks.map (Zah rs)) := by
 unfold sumP Zfa ZaU
 rw [List.take_of_length_le (by simp)]
def Zbn (acc : List Nat) : List (Key × V) := acc.map fun k : Nat => (Sum.inl (k : Int), V.bl true)
theorem Zkt {acc : List Nat} {k : Nat} : (Zdn (Zbn acc) (Sum.inl (k : Int))).isSome = decide (k ∈ acc) := by
 induction acc with
 | nil => rfl
 | cons a acc ih =>
  by_cases c : a = k
  ·subst c
   unfold Zbn
   rw [List.map_cons, ZcI rfl]
   simp
  ·unfold Zbn at ih ⊢
   rw [List.map_cons, ZcQ (by intro e; injection e with e; exact c (by omega)), ih]
   simp [Ne.symm c]
theorem Zj7 {acc : List Nat} {k : Nat} (h : k ∉ acc) : Zbr (Zbn acc) (Sum.inl (k : Int)) (V.bl true) = Zbn (acc ++ [k]) := by
 rw [Zk8 _ (by
  have := Zkt (acc := acc) (k := k)
  rw [decide_eq_false h] at this
  simpa using this)]
 unfold Zbn
 rw [List.map_append]
 rfl
theorem Zci {acc : List Nat} {n : Nat} (h : acc.Nodup) (hb : ∀ k ∈ acc, 1 ≤ k ∧ k ≤ n) : acc.length ≤ n := by
 have hs : acc ⊆ List.range' 1 n := fun k hk => by
  obtain ⟨h1, h2⟩ := hb k hk
  exact List.mem_range'_1.mpr ⟨h1, by omega⟩
 have := List.Nodup.length_le_of_subset h hs
 simpa using this
theorem Zeo {rs : List (Nat × Rat)} (hz : ∀ r ∈ rs, SzQ 110 r.2) (k : Nat) : SzQ 110 (Zah rs k) := by
 unfold Zah
 cases h : rs[k - 1]? with
 | none => exact Zc9 (by decide)
 | some r => exact hz r (List.mem_of_getElem? h)
theorem ZcA {rs : List (Nat × Rat)} (hz : ∀ r ∈ rs, SzQ 110 r.2) : ∀ acc : List Nat, SzQ (111 * acc.length + 1) (ZaU (acc.map (Zah rs)))
 | [] => Zc9 (by decide)
 | k :: acc => by
  rw [List.map_cons, ZaB, List.length_cons]
  exact (Zeo hz k).add (ZcA hz acc) (by omega)
section
variable {P : Program} {w : World} {K : PySem.W.Frag} {mg : Str → Option Value} {base : Heap} {f : Addr} {fd : FuncData}
def ZeE : Sp := fun vs H Q _ => ∃ (x y : V) (p q : Rat), vs = [x, y] ∧ RatV H x p ∧ RatV H y q ∧ SzQ 3000 p ∧ SzQ 3000 q ∧ ∀ r H', Same H H' → RatV H' r (p + q) → Q r H'
theorem ok_ladd (F : Fun K "_law_add" "_law_add" ZbY f fd) (F_law_low : Fn P w K mg base CX0 1 "_law_low" ["_law_top", "_law_bottom"] Zb8) : FnOk P w K mg base CX0 2 f fd ["_law_one", "_law_other"] ZeE := by
 refine okQ F ZhF (fun vs H Q E h => ?_) (fun cdv A outer s H vs Q E hr h => ?_)
 ·obtain ⟨x, y, p, t, rfl, _⟩ := h; rfl
 obtain ⟨x, y, p, t, rfl, ⟨a, rfl, ha⟩, ⟨b, rfl, hb⟩, z1, z2, q⟩ := h
 refine ⟨_, (Zai (Zay (ZaY F_law_low hr (by decide) rfl (a_c (ZbG (Zbi (ZaJ (q_v 0) Zad) (ZaJ (q_v 1) Zad)) (Zbi (ZaJ (q_v 1) Zad) (ZaJ (q_v 0) Zad))) (a_c (Zbi (ZaJ (q_v 0) Zad) (ZaJ (q_v 1) Zad)) Zab))))), ?_⟩
 rw [show Zav ["_law_one", "_law_other"] [.ref a, .ref b] = [some (.ref a), some (.ref b)] from rfl]
 walk_at "rd"
 simp only [ha, hb, Zb8]
 walk_at "rd"
 have hp := p.den_pos
 have ht := t.den_pos
 refine ⟨Zcj z1.1 (ZaP z2) (by decide), Zcj z2.1 (ZaP z1) (by decide), Zcj (ZaP z1) (ZaP z2) (by decide), Big.of (Zbe (ZaP z1) (ZaP z2)) (by decide), Int.mul_pos (by omega) (by omega), fun r H' hs v => q r H' hs ?_⟩
 rw [Zet]
 exact v
end
theorem ZfL {a : Addr} {o : Obj} {kvs : List (Key × V)} {ss : List Str} {cp : St} {tt : TT} {H1 : Hp} {Q : VK} (r : Str → Bool) (ha : H1 a = some (.frz o (.dK kvs))) (he : (kvs.map fun kv => kV kv.1) = ss.map V.str) (hl : ss.length < 1000) (ht : ∀ z ∈ ss, ∀ H' (k : Bool → Hp → Prop), Same H1 H' → k (r z) H' → tt (some (V.str z) :: cp) H' k)
  (q : ∀ p H', H1 p = none → Same H1 H' → H' p = some (.lst ((ss.filter r).map V.str)) → Q (.ref p) H') : ZfN 1 cp (Itd a o kvs) (Zcu 0) tt (tVar 0) H1 Q := by
 have hlen : kvs.length = ss.length := by have := congrArg List.length he; simpa using this
 refine Ze5 (fun acc i ys H' => Same H1 H' ∧ H' acc = some (.lst ys) ∧ ys = ((ss.take i).filter r).map V.str ∧ i ≤ ss.length)
  (fun acc H2 hn sm e => ⟨sm, e, by simp, Nat.zero_le _⟩) (fun acc i ys H2 ⟨sm, e, e2, hi⟩ => ⟨e, ?_, sm _ _ ha⟩) (fun acc i kv ys H2 os hn hi hP ol => ?_) (fun acc ys H2 hn hP => ?_)
 ·rw [e2, List.length_map]
  exact Nat.lt_of_le_of_lt (List.length_filter_le _ _) (by rw [List.length_take]; omega)
 ·obtain ⟨sm, e, e2, _⟩ := hP
  obtain ⟨o', rfl⟩ : ∃ o', os = [o'] := by match os, ol with | [o'], _ => exact ⟨o', rfl⟩
  obtain ⟨z, hz, ek⟩ : ∃ z, ss[i]? = some z ∧ kV kv.1 = V.str z := by
   have h1 := congrArg (·[i]?) he
   simp only [List.getElem?_map, hi, Option.map_some] at h1
   cases h : ss[i]? with
   | none => rw [h] at h1; cases h1
   | some z => rw [h] at h1; exact ⟨z, rfl, by simpa using h1⟩
  rw [ek]
  have hil := (List.getElem?_eq_some_iff.mp hz).1
  refine ⟨[some (V.str z)], rfl, rfl, ht z (List.mem_of_getElem? hz) H2 _ sm ?_⟩
  have tk : (ss.take (i + 1)).filter r = (ss.take i).filter r ++ (if r z = true then [z] else []) := by
   rw [List.take_add_one, hz, List.filter_append]
   congr 1
   show [z].filter r = _
   by_cases c : r z = true
   ·rw [List.filter_cons_of_pos c, if_pos c]; rfl
   ·rw [List.filter_cons_of_neg c, if_neg c]; rfl
  refine Ze9 (fun c => ⟨V.str z, rfl, e, Zam hn sm, upd_same, ?_, hil⟩) (fun c => ⟨sm, e, ?_, hil⟩)
  ·rw [tk, if_pos c, e2, List.map_append]; rfl
  ·rw [tk, if_neg c, List.append_nil, e2]
 ·obtain ⟨sm, e, e2, _⟩ := hP
  rw [hlen, List.take_length] at e2
  subst e2
  exact q acc H2 hn sm e
def Vil (kvs : List (Key × V)) (ss : List Str) (hf : Str → Nat) (n : Nat) : Prop := (kvs.map fun kv => kV kv.1) = ss.map V.str ∧ ss.length < 50 ∧ ∀ z ∈ ss, Zdn kvs (Sum.inr z) = some (.int (hf z : Int)) ∧ hf z ≤ n
theorem Vil.of {kvs : List (Key × V)} {ss : List Str} {hf : Str → Nat} {n : Nat} (h1 : (kvs.map fun kv => kV kv.1) = ss.map V.str) (hl : ss.length < 50) (h2 : ∀ gs : List Str, (∀ z ∈ gs, z ∈ ss) → Zcl kvs gs (gs.map hf) n) : Vil kvs ss hf n :=
 ⟨h1, hl, fun z hz => (h2 [z] (fun y hy => by rw [List.mem_singleton.mp hy]; exact hz)).2 0 z (hf z) rfl rfl⟩
theorem ben_mem {rs : List (Nat × Rat)} {k h : Nat} (hh : h ≤ rs.length) : (h ∈ ben rs k) = (k ∈ wayL rs h) := by
 unfold ben
 rw [List.mem_filter, List.mem_range]
 simp
 intro _
 omega
section
variable {P : Program} {w : World} {K : PySem.W.Frag} {mg : Str → Option Value} {base : Heap} {f : Addr} {fd : FuncData} {CT CNP CNT CSE : Addr}
def ZgF (C CNP : Addr) : Sp := fun vs H Q E => ∃ x rs d k, vs = [x, .ref d, .int k] ∧ TreeV C H x rs ∧ rs.length ≤ 100 ∧
 (∀ k' : Nat, k = (k' : Int) → inR rs k → ∃ o kvs ss hf, H d = some (.frz o (.dK kvs)) ∧ Vil kvs ss hf rs.length ∧ ∀ p H' (ts : List Str), H p = none → Same H H' → H' p = some (.lst (ts.map V.str)) → ts.Pairwise leS → ts.Perm (ss.filter fun z => decide (k' ∈ wayL rs (hf z))) → Q (.ref p) H') ∧ (¬ inR rs k → E (.ref CNP) none H)
theorem ZlE (F : Fun K "users" "users" Zc4 f fd) (n_sorted : mg "sorted" = none) (M_beneath : Mth P w K mg base CX0 4 CT "beneath" ["self", "k"] (fun vs H Q _ => Zj0 CT CNP vs H Q E0)) : FnOk P w K mg base CX0 5 f fd ["tree", "homes", "k"] (fun vs H Q _ => ZgF CT CNP vs H Q E0) := by
 refine okQ F sc_users (fun vs H Q E h => ?_) (fun cdv A outer s H vs Q E hr h => ?_)
 ·obtain ⟨x, rs, d, k, rfl, _⟩ := h; rfl
 obtain ⟨x, rs, d, k, rfl, hT, hrl, q1, q2⟩ := h
 refine ⟨_, (Zac (Zap 3 sc_users.nd (Zcv M_beneath hr (by decide) (q_v 0) (a_c (q_v 2) Zab)))
   (Zai (Zay (ZcO rfl n_sorted (a_c (Zgt (Zji ["name"] [1, 3] ["homes", "places"]) (Zfy (q_v 1)) (by exact fun s H fp => (Zar 0 (show List.Nodup (["name", "homes", "places"] : List Str) from by decide +kernel))) (by exact fun s H fp => Zg5 (Zik K (ZbZ (ZbL hr) (q_v 1) (q_v 0)) (q_v 2))) (by exact fun s H fp => (q_v 0))) Zab))))), ?_⟩
 rw [show Zav ["tree", "homes", "k", "places"] [x, .ref d, .int k] = [some (x), some (.ref d), some (.int k), none] from rfl]
 walk_at "rd"
 obtain ⟨a, dx, la, wa, ls, ws, rfl, h1, _⟩ := id hT
 refine ⟨a, rfl, dx, _, h1, rfl, .ref a, rs, k, rfl, hT, hrl, fun p H1 k' ek hin hp s1 e1 => ?_, q2⟩
 obtain ⟨o, kvs, ss, hf, hd, hV, q⟩ := q1 k' ek hin
 simp only [Zdi, Zgi]
 walk_at "rd"
 refine ⟨o, kvs, s1 _ _ hd, ?_⟩
 subst ek
 rw [show ZbK [some (V.ref a), some (V.ref d), some (V.int (k' : Int)), some (V.ref p)] [1, 3] = [some (V.ref d), some (V.ref p)] from rfl]
 refine ZfL (fun z => decide (k' ∈ wayL rs (hf z))) (s1 _ _ hd) hV.1 (by have := hV.2.1; omega) (fun z hz H' k sm hk => ?_) (fun p2 H2 hp2 s2 e2 => ?_)
 ·obtain ⟨hv, hle⟩ := hV.2.2 z hz
  walk_at "rd"
  simp only [rIn]
  walk_at "rd"
  refine ⟨kvs, .inr ⟨o, (s1.trans sm) _ _ hd⟩, .inr z, rfl, _, hv, Zbf (ben rs k'), .inl (.of (sm _ _ e1)), rfl, ZeD, ?_⟩
  rw [Zf4, decide_eq_decide.mpr (by rw [ben_mem hle])]
  exact hk
 ·refine ⟨p2, rfl, _, e2, Nat.lt_of_le_of_lt (List.length_filter_le _ _) (by have := hV.2.1; omega), fun l H3 ts hl s3 e3 hpw hpm => ?_⟩
  exact q l H3 ts ((s1.trans s2).free hl) (s1.trans (s2.trans s3)) e3 hpw hpm
end
def ListV {α : Type} (R : Hp → V → α → Prop) (H : Hp) (xs : List V) (as : List α) : Prop := xs.length = as.length ∧ ∀ (i : Nat) x a, xs[i]? = some x → as[i]? = some a → R H x a
def Zgp {α : Type} (R : Hp → V → α → Prop) : Prop := ∀ H H' v a, R H v a → (∀ b ys, H b = some (.tup ys) → H' b = some (.tup ys)) → R H' v a
theorem ListV.keep {α : Type} {R : Hp → V → α → Prop} (kR : Zgp R) {H H' : Hp} {xs : List V} {as : List α} (h : ListV R H xs as) (s : ∀ b ys, H b = some (.tup ys) → H' b = some (.tup ys)) : ListV R H' xs as := ⟨h.1, fun i x a h1 h2 => kR _ _ _ _ (h.2 i x a h1 h2) s⟩
theorem ListV.snoc {α : Type} {R : Hp → V → α → Prop} {H : Hp} {xs : List V} {as : List α} {x : V} {a : α} (h : ListV R H xs as) (hx : R H x a) : ListV R H (xs ++ [x]) (as ++ [a]) := ⟨by simp [h.1], fun i y r h1 h2 => by
 by_cases c : i < xs.length
 ·rw [List.getElem?_append_left c] at h1
  rw [List.getElem?_append_left (by rw [← h.1]; exact c)] at h2
  exact h.2 i y r h1 h2
 ·have hi : i = xs.length := by have := (List.getElem?_eq_some_iff.mp h1).1; simp at this; omega
  subst hi
  rw [List.getElem?_append_right (Nat.le_refl _)] at h1
  rw [h.1, List.getElem?_append_right (Nat.le_refl _)] at h2
  simp at h1 h2
  subst h1
  subst h2
  exact hx⟩
theorem Zgy {α : Type} {K : PySem.W.Frag} {a : Addr} {nt : Nat} {cp : St} {g : TG} {te : TE} {H1 : Hp} {Q : VK} (R : Hp → V → α → Prop) (kR : Zgp R) {xs : List V} {as : List α} (ha : H1 a = some (.lst xs)) (hlen : xs.length = as.length) (hl : xs.length < 1000)
  (ht : ∀ (i : Nat) x b, xs[i]? = some x → as[i]? = some b → ∀ H' (k : VK) os, Same H1 H' → os.length = nt → (∀ v H2, Same H' H2 → R H2 v b → k v H2) → g x (os ++ cp) H' fun τ H3 => ∃ os', os'.length = nt ∧ τ = os' ++ cp ∧ te τ H3 k)
  (q : ∀ p H' ys, H1 p = none → Same H1 H' → H' p = some (.lst ys) → ListV R H' ys as → Q (.ref p) H') : Zko nt cp (Itl K a) g te H1 Q := by
 unfold Zko
 refine Zdv (xs := xs) (fun acc i ys H' => Same H1 H' ∧ H' acc = some (.lst ys) ∧ ListV R H' ys (as.take i) ∧ i ≤ as.length)
  (fun acc H2 hn sm e => ⟨sm, e, ⟨by simp, fun i v r h1 h2 => by simp at h1⟩, Nat.zero_le _⟩) (fun acc i ys H2 hn ⟨sm, e, e2, hi⟩ => ⟨e, ?_, .of (sm _ _ ha)⟩) (fun acc i y ys H2 os hn hi hP ol => ?_) (fun acc ys H2 hn hP => ?_)
 ·rw [e2.1, List.length_take]; omega
 ·obtain ⟨sm, e, e2, _⟩ := hP
  have hil : i < as.length := by rw [← hlen]; exact (List.getElem?_eq_some_iff.mp hi).1
  have hb := List.getElem?_eq_getElem hil
  refine ht i y _ hi hb H2 (fun v H5 => H5 acc = some (.lst ys) ∧ (Same H1 (upd H5 acc (.lst (ys ++ [v]))) ∧ upd H5 acc (.lst (ys ++ [v])) acc = some (.lst (ys ++ [v])) ∧ ListV R (upd H5 acc (.lst (ys ++ [v]))) (ys ++ [v]) (as.take (i + 1)) ∧ i + 1 ≤ as.length)) os sm ol fun v H3 s3 hv => ⟨s3 _ _ e, Zam hn (sm.trans s3), upd_same, ?_, hil⟩
  have kp : ∀ b ys', H3 b = some (.tup ys') → upd H3 acc (.lst (ys ++ [v])) b = some (.tup ys') := fun b ys' eb => by rw [Zae (ZbI eb (s3 _ _ e) (by intro z; cases z))]; exact eb
  rw [List.take_add_one, hb]
  exact ((e2.keep kR fun b ys' eb => s3 _ _ eb).keep kR kp).snoc (kR _ _ _ _ hv kp)
 ·obtain ⟨sm, e, e2, _⟩ := hP
  rw [hlen, List.take_length] at e2
  exact q acc H2 ys hn sm e e2
theorem ZkZ {α : Type} {a : Addr} {o : Obj} {kvs : List (Key × V)} {nt : Nat} {cp : St} {g : TG} {te : TE} {H1 : Hp} {Q : VK} (R : Hp → V → α → Prop) (kR : Zgp R) {as : List α} (ha : H1 a = some (.frz o (.dK kvs))) (hlen : kvs.length = as.length) (hl : kvs.length < 1000)
  (ht : ∀ (i : Nat) kv b, kvs[i]? = some kv → as[i]? = some b → ∀ H' (k : VK) os, Same H1 H' → os.length = nt → (∀ v H2, Same H' H2 → R H2 v b → k v H2) → g (kV kv.1) (os ++ cp) H' fun τ H3 => ∃ os', os'.length = nt ∧ τ = os' ++ cp ∧ te τ H3 k)
  (q : ∀ p H' ys, H1 p = none → Same H1 H' → H' p = some (.lst ys) → ListV R H' ys as → Q (.ref p) H') : Zko nt cp (Itd a o kvs) g te H1 Q := by
 unfold Zko
 refine Ze5 (fun acc i ys H' => Same H1 H' ∧ H' acc = some (.lst ys) ∧ ListV R H' ys (as.take i) ∧ i ≤ as.length)
  (fun acc H2 hn sm e => ⟨sm, e, ⟨by simp, fun i v r h1 h2 => by simp at h1⟩, Nat.zero_le _⟩) (fun acc i ys H2 ⟨sm, e, e2, hi⟩ => ⟨e, ?_, sm _ _ ha⟩) (fun acc i y ys H2 os hn hi hP ol => ?_) (fun acc ys H2 hn hP => ?_)
 ·rw [e2.1, List.length_take]; omega
 ·obtain ⟨sm, e, e2, _⟩ := hP
  have hil : i < as.length := by rw [← hlen]; exact (List.getElem?_eq_some_iff.mp hi).1
  have hb := List.getElem?_eq_getElem hil
  refine ht i y _ hi hb H2 (fun v H5 => H5 acc = some (.lst ys) ∧ (Same H1 (upd H5 acc (.lst (ys ++ [v]))) ∧ upd H5 acc (.lst (ys ++ [v])) acc = some (.lst (ys ++ [v])) ∧ ListV R (upd H5 acc (.lst (ys ++ [v]))) (ys ++ [v]) (as.take (i + 1)) ∧ i + 1 ≤ as.length)) os sm ol fun v H3 s3 hv => ⟨s3 _ _ e, Zam hn (sm.trans s3), upd_same, ?_, hil⟩
  have kp : ∀ b ys', H3 b = some (.tup ys') → upd H3 acc (.lst (ys ++ [v])) b = some (.tup ys') := fun b ys' eb => by rw [Zae (ZbI eb (s3 _ _ e) (by intro z; cases z))]; exact eb
  rw [List.take_add_one, hb]
  exact ((e2.keep kR fun b ys' eb => s3 _ _ eb).keep kR kp).snoc (kR _ _ _ _ hv kp)
 ·obtain ⟨sm, e, e2, _⟩ := hP
  rw [hlen, List.take_length] at e2
  exact q acc H2 ys hn sm e e2
def IntR (_ : Hp) (v : V) (n : Int) : Prop := v = .int n
theorem Zi2 : Zgp IntR := fun _ _ _ _ h _ => h
theorem Zkq {H : Hp} {ys : List V} {ns : List Int} (h : ListV IntR H ys ns) : ys = ns.map V.int := by
 refine List.ext_getElem? fun i => ?_
 rw [List.getElem?_map]
 by_cases c : i < ys.length
 ·have c2 : i < ns.length := by rw [← h.1]; exact c
  rw [List.getElem?_eq_getElem c, List.getElem?_eq_getElem c2]
  exact congrArg some (h.2 i _ _ (List.getElem?_eq_getElem c) (List.getElem?_eq_getElem c2))
 ·rw [List.getElem?_eq_none (by omega), List.getElem?_eq_none (by rw [← h.1]; omega)]
  rfl
theorem Zg7 (p q : Rat) : p - q = Rat.divInt (p.num * (q.den : Int) - q.num * (p.den : Int)) ((p.den : Int) * (q.den : Int)) := by
 have hp := p.den_pos
 have hq := q.den_pos
 conv => lhs; rw [← Rat.num_divInt_den p, ← Rat.num_divInt_den q]
 rw [Rat.divInt_sub_divInt _ _ (by omega) (by omega)]
theorem SzQ.sub {n m k : Nat} {p q : Rat} (hp : SzQ n p) (hq : SzQ m q) (h : n + m + 1 ≤ k) : SzQ k (p - q) := by
 have hq' : SzQ m (-q) := ⟨by rw [Rat.neg_num, Int.natAbs_neg]; exact hq.1, by rw [Rat.neg_den]; exact hq.2⟩
 rw [Rat.sub_eq_add_neg]
 exact hp.add hq' h
def Zcp : Sp := fun vs H Q _ => ∃ (x y : V) (p q : Rat), vs = [x, y] ∧ RatV H x p ∧ RatV H y q ∧ SzQ 3000 p ∧ SzQ 3000 q ∧ ∀ r H', Same H H' → RatV H' r (p - q) → Q r H'
def RatsSz (qs : List Rat) : Prop := (∀ i, i ≤ qs.length → SzQ 3000 (Zfa qs i)) ∧ ∀ (i : Nat) q, qs[i]? = some q → SzQ 3000 q
def Zd2 : Sp := fun vs H Q _ => ∃ (a : Addr) (xs : List V) (qs : List Rat), vs = [.ref a] ∧ H a = some (.lst xs) ∧ RatsV H xs qs ∧ RatsSz qs ∧ ∀ r H', Same H H' → RatV H' r (Zfa qs qs.length) → Q r H'
def ZeI : Sp := fun vs H Q _ => ∃ (p d g : Addr) (xs : List V) (rs : List (Nat × Rat)) (kvs : List (Key × V)) (ss : List Str) (hs : List Nat), vs = [.ref p, .ref d, .ref g] ∧ H p = some (.lst xs) ∧ RoadsV H xs rs ∧ Rd H d (.dK kvs) ∧ H g = some (.lst (ss.map V.str)) ∧ Zcl kvs ss hs rs.length ∧ rs.length ≤ 20 ∧ ss.length < 50 ∧ Zcx rs ∧ (∀ r ∈ rs, SzQ 110 r.2) ∧
 ∀ r H' (acc : List Nat), Same H H' → acc.Nodup → (∀ k, k ∈ acc ↔ Zcs rs hs k) → RatV H' r (ZaU (acc.map (Zah rs))) → Q r H'
theorem ZhA {acc : List Nat} {k : Nat} (h : k ∈ acc) : Zbr (Zbn acc) (Sum.inl (k : Int)) (V.bl true) = Zbn acc := by
 unfold Zbr
 split
 ·rw [show (Zbn acc).map (fun kv => if kv.1 = Sum.inl (k : Int) then (kv.1, V.bl true) else kv) = (Zbn acc).map id from List.map_congr_left fun kv hkv => ?_, List.map_id]
  unfold Zbn at hkv
  obtain ⟨j, _, rfl⟩ := List.mem_map.mp hkv
  show (if _ then _ else _) = _
  split <;> rfl
 ·rename_i c
  exact absurd (List.any_eq_true.mpr ⟨(Sum.inl (k : Int), V.bl true), List.mem_map.mpr ⟨k, h, rfl⟩, by simp⟩) c
theorem ZdJ : Zgp RatV := fun _ _ _ _ h s => h.keep s
section
variable {P : Program} {w : World} {K : PySem.W.Frag} {mg : Str → Option Value} {base : Heap} {f : Addr} {fd : FuncData}
theorem Zkh (F : Fun K "rest_of" "rest_of" ZbV f fd) (F_ratio : Fn P w K mg base CX0 2 "ratio" ["top", "bottom"] Zb0) : FnOk P w K mg base CX0 3 f fd ["one", "other"] Zcp := by
 refine okQ F Zhz (fun vs H Q E h => ?_) (fun cdv A outer s H vs Q E hr h => ?_)
 ·obtain ⟨x, y, p, t, rfl, _⟩ := h; rfl
 obtain ⟨x, y, p, t, rfl, ⟨a, rfl, ha⟩, ⟨b, rfl, hb⟩, z1, z2, q⟩ := h
 refine ⟨_, (Zai (Zay (ZaY F_ratio hr (by decide) rfl (a_c (Zc3 (Zbi (ZaJ (q_v 0) Zad) (ZaJ (q_v 1) Zad)) (Zbi (ZaJ (q_v 1) Zad) (ZaJ (q_v 0) Zad))) (a_c (Zbi (ZaJ (q_v 0) Zad) (ZaJ (q_v 1) Zad)) Zab))))), ?_⟩
 rw [show Zav ["one", "other"] [.ref a, .ref b] = [some (.ref a), some (.ref b)] from rfl]
 walk_at "rd"
 simp only [ha, hb, Zb0]
 walk_at "rd"
 refine ⟨Zcj z1.1 (ZaP z2) (by decide), Zcj z2.1 (ZaP z1) (by decide), Zcj (ZaP z1) (ZaP z2) (by decide), Big.of (Zbe (ZaP z1) (ZaP z2)) (by decide), Zey p t, fun r H' hs v => q r H' hs ?_⟩
 rw [Zg7]
 exact v
theorem ZlT (F : Fun K "_law_less" "_law_less" ZbC f fd) (F_law_low : Fn P w K mg base CX0 1 "_law_low" ["_law_top", "_law_bottom"] Zb8) : FnOk P w K mg base CX0 2 f fd ["_law_one", "_law_other"] Zcp := by
 refine okQ F Zgz (fun vs H Q E h => ?_) (fun cdv A outer s H vs Q E hr h => ?_)
 ·obtain ⟨x, y, p, t, rfl, _⟩ := h; rfl
 obtain ⟨x, y, p, t, rfl, ⟨a, rfl, ha⟩, ⟨b, rfl, hb⟩, z1, z2, q⟩ := h
 refine ⟨_, (Zai (Zay (ZaY F_law_low hr (by decide) rfl (a_c (Zc3 (Zbi (ZaJ (q_v 0) Zad) (ZaJ (q_v 1) Zad)) (Zbi (ZaJ (q_v 1) Zad) (ZaJ (q_v 0) Zad))) (a_c (Zbi (ZaJ (q_v 0) Zad) (ZaJ (q_v 1) Zad)) Zab))))), ?_⟩
 rw [show Zav ["_law_one", "_law_other"] [.ref a, .ref b] = [some (.ref a), some (.ref b)] from rfl]
 walk_at "rd"
 simp only [ha, hb, Zb8]
 walk_at "rd"
 have hp := p.den_pos
 have ht := t.den_pos
 refine ⟨Zcj z1.1 (ZaP z2) (by decide), Zcj z2.1 (ZaP z1) (by decide), Zcj (ZaP z1) (ZaP z2) (by decide), Big.of (Zbe (ZaP z1) (ZaP z2)) (by decide), Int.mul_pos (by omega) (by omega), fun r H' hs v => q r H' hs ?_⟩
 rw [Zg7]
 exact v
def Plt (H1 : Hp) (a : Addr) (qs : List Rat) (i : Nat) (σ : St) (H' : Hp) : Prop := ∃ r o, σ = [some (V.ref a), some r, o] ∧ Same H1 H' ∧ RatV H' r (Zfa qs i)
theorem Zjn (F : Fun K "_law_total" "_law_total" Zbk f fd) (F_law_add : Fn P w K mg base CX0 2 "_law_add" ["_law_one", "_law_other"] ZeE) : FnOk P w K mg base CX0 3 f fd ["_law_some"] Zd2 := by
 refine okQ F sc_law_total (fun vs H Q E h => ?_) (fun cdv A outer s H vs Q E hr h => ?_)
 ·obtain ⟨a, xs, qs, rfl, _⟩ := h; rfl
 obtain ⟨a, xs, qs, rfl, ha, hR, hz, q⟩ := h
 refine ⟨_, (Zac (Zap 1 sc_law_total.nd (ZcH (a_c Zad (a_c Zad Zab))))
   (Zac (ZbQ PassesOwn.never (Zbm (q_v 0)) (Zar 2 sc_law_total.nd) (Zai (Zap 1 sc_law_total.nd (ZaY F_law_add hr (by decide) rfl (a_c (q_v 1) (a_c (q_v 2) Zab))))))
   (Zai (Zay (q_v 1))))), ?_⟩
 rw [show Zav ["_law_some", "_law_total_here", "_law_one"] [.ref a] = [some (.ref a), none, none] from rfl]
 walk_at "rd"
 intro pt H1 hpt s1 e1
 simp only [Za6]
 walk_at "rd"
 refine Zbl (Plt H1 a qs) ⟨.ref pt, _, rfl, fun _ _ z => z, pt, rfl, e1⟩ (fun i σ H' _ ⟨_, _, _, sm, _⟩ => .of ((s1.trans sm) _ _ ha)) (fun i x σ H' hx hP => ?_) (fun σ H' hP => ?_)
 ·obtain ⟨r, o, rfl, sm, hv⟩ := hP
  have hi : i < qs.length := by rw [← hR.1]; exact (List.getElem?_eq_some_iff.mp hx).1
  have hq := List.getElem?_eq_getElem hi
  walk_at "rd"
  refine ⟨r, x, Zfa qs i, qs[i], rfl, hv, (hR.2 i _ _ hx hq).same (s1.trans sm), hz.1 i (Nat.le_of_lt hi), hz.2 i _ hq, fun r2 H2 s2 v2 => ⟨_, _, rfl, sm.trans s2, ?_⟩⟩
  rw [ZcN hq]
  exact v2
 ·obtain ⟨r, o, rfl, sm, hv⟩ := hP
  walk_at "rd"
  rw [hR.1] at hv
  exact q r H' (s1.trans sm) hv
def Plc (H0 : Hp) (p d g kd : Addr) (Pm : Nat → Prop) (σ : St) (H : Hp) : Prop := ∃ (o1 o2 : Option V) (acc : List Nat), σ = [some (.ref p), some (.ref d), some (.ref g), some (.ref kd), o1, o2] ∧ Same H0 H ∧ H kd = some (.dK (Zbn acc)) ∧ acc.Nodup ∧ (∀ k, k ∈ acc ↔ Pm k)
theorem Zll (F : Fun K "_law_cost" "_law_cost" ZbD f fd) (F_law_way : Fn P w K mg base CX0 1 "_law_way" ["_law_roads", "_law_k"] Zjo) (F_law_total : Fn P w K mg base CX0 3 "_law_total" ["_law_some"] Zd2) : FnOk P w K mg base CX0 4 f fd ["_law_roads", "_law_homes", "_law_group"] ZeI := by
 refine okQ F sc_law_cost (fun vs H Q E h => ?_) (fun cdv A outer s H vs Q E hr h => ?_)
 ·obtain ⟨p, d, g, xs, rs, kvs, ss, hs, rfl, _⟩ := h; rfl
 obtain ⟨p, d, g, xs, rs, kvs, ss, hs, rfl, hp, hR, hd, hg, hH, hrl, hsl, hO, hz, q⟩ := h
 refine ⟨_, (Zac (Zap 3 sc_law_cost.nd Zis)
   (Zac (ZbQ PassesOwn.never (Zbm (q_v 2)) (Zar 4 sc_law_cost.nd) (Zai (ZbQ PassesOwn.never (Zbm (ZaY F_law_way hr (by decide) rfl (a_c (q_v 0) (a_c (ZbZ (ZbL hr) (q_v 1) (q_v 4)) Zab)))) (Zar 5 sc_law_cost.nd) (Zai (Zd9 (ZbL hr) (q_v 3) (q_v 5) Zj8)))))
   (b_frz 3 (Zai (Zay (ZaY F_law_total hr (by decide) rfl (a_c (Zen (Zji ["_law_k"] [0] ["_law_roads"]) (Zfy (q_v 3)) (by exact fun s H fp => (Zar 0 (show List.Nodup (["_law_k", "_law_roads"] : List Str) from by decide +kernel))) (by exact fun s H fp => (ZaJ (Zcf (q_v 1) (Zc3 (q_v 0) Zad)) Zad))) Zab))))))), ?_⟩
 rw [show Zav ["_law_roads", "_law_homes", "_law_group", "_law_known", "_law_name", "_law_k"] [.ref p, .ref d, .ref g] = [some (.ref p), some (.ref d), some (.ref g), none, none, none] from rfl]
 walk_at "rd"
 intro kd H1 hkd s1 e1
 simp only [Za6]
 walk_at "rd"
 refine Zbl (fun i => Plc H p d g kd (Zcs rs (hs.take i))) ⟨_, _, [], rfl, s1, e1, List.nodup_nil, fun k => ⟨(fun z => by cases z), (fun ⟨h, hm, _⟩ => by simp at hm)⟩⟩ (fun i σ H' _ ⟨_, _, _, _, sm, _⟩ => .of (sm _ _ hg)) (fun i y σ H' hi hP => ?_) (fun σ H' hP => ?_)
 ·obtain ⟨o1, o2, acc, rfl, sm, e3, hnd, hm⟩ := hP
  rw [List.getElem?_map] at hi
  obtain ⟨z, hz', rfl⟩ : ∃ z, ss[i]? = some z ∧ y = V.str z := by cases h : ss[i]? with | none => rw [h] at hi; cases hi | some z => rw [h] at hi; cases hi; exact ⟨z, rfl, rfl⟩
  have hi' : i < ss.length := (List.getElem?_eq_some_iff.mp hz').1
  have hih : i < hs.length := by rw [← hH.1]; exact hi'
  have hh := List.getElem?_eq_getElem hih
  obtain ⟨hvl, hle⟩ := hH.2 i z _ hz' hh
  obtain ⟨w0, hw0, hwl0⟩ := Zcn hO hle
  walk_at "rd"
  rw [Za6]
  walk_at "rd"
  refine ⟨kvs, Zcy hd sm, .inr z, rfl, _, hvl, p, xs, rs, hs[i], w0, rfl, sm _ _ hp, hR.same sm, hw0, by omega, fun pw H4 hpw s4 e4 => ?_⟩
  have hpk : pw ≠ kd := fun zz => by rw [zz, e3] at hpw; cases hpw
  refine Zbl (fun j σ H5 => Plc H p d g kd (fun k => Zcs rs (hs.take i) k ∨ k ∈ w0.take j) σ H5 ∧ H5 pw = some (.lst (Zbf w0))) ⟨⟨_, _, acc, rfl, sm.trans s4, s4 _ _ e3, hnd, fun k => by rw [hm k]; simp⟩, e4⟩ (fun j σ H5 _ hP => .of hP.2) (fun j y σ H5 hj hP => ?_) (fun σ H5 hP => ?_)
  ·obtain ⟨⟨q1, q2, acc5, rfl, s5, e5, hnd5, hm5⟩, e6⟩ := hP
   have hjl : j < w0.length := by have := (List.getElem?_eq_some_iff.mp hj).1; simpa [Zbf] using this
   have hk := List.getElem?_eq_getElem hjl
   have hy : y = V.int (w0[j] : Int) := by
    unfold Zbf at hj
    rw [List.getElem?_map, hk] at hj
    cases hj
    rfl
   subst hy
   have tk : ∀ k, k ∈ w0.take (j + 1) ↔ k ∈ w0.take j ∨ k = w0[j] := fun k => by rw [List.take_add_one, hk, List.mem_append]; simp
   have hbd : ∀ k ∈ acc5, 1 ≤ k ∧ k ≤ rs.length := fun k hk => by
    rcases (hm5 k).mp hk with h | h
    ·exact Zba h
    ·exact hw0.mem k (List.mem_of_mem_take h)
   have hal := Zci hnd5 hbd
   walk_at "rd"
   refine ⟨_, e5, .inl (w0[j] : Int), rfl, by unfold Zbn; rw [List.length_map]; omega, ?_⟩
   by_cases c : w0[j] ∈ acc5
   ·rw [ZhA c]
    refine ⟨⟨_, _, acc5, rfl, Zam hkd s5, upd_same, hnd5, fun k => ?_⟩, by rw [Zae hpk]; exact e6⟩
    show k ∈ acc5 ↔ (Zcs rs (hs.take i) k ∨ k ∈ w0.take (j + 1))
    rw [tk k, hm5 k]
    constructor
    ·rintro (h | h)
     ·exact .inl h
     ·exact .inr (.inl h)
    ·rintro (h | h | h)
     ·exact .inl h
     ·exact .inr h
     ·subst h; exact (hm5 _).mp c
   ·rw [Zj7 c]
    refine ⟨⟨_, _, acc5 ++ [w0[j]], rfl, Zam hkd s5, upd_same, ?_, fun k => ?_⟩, by rw [Zae hpk]; exact e6⟩
    ·exact List.nodup_append.mpr ⟨hnd5, by simp, fun x hx y hy => by rw [List.mem_singleton.mp hy]; intro e; exact c (e ▸ hx)⟩
    ·show k ∈ acc5 ++ [w0[j]] ↔ (Zcs rs (hs.take i) k ∨ k ∈ w0.take (j + 1))
     rw [List.mem_append, List.mem_singleton, tk k, hm5 k, or_assoc]
  ·obtain ⟨⟨q1, q2, acc5, rfl, s5, e5, hnd5, hm5⟩, e6⟩ := hP
   refine ⟨_, _, acc5, rfl, s5, e5, hnd5, fun k => ?_⟩
   rw [hm5 k, Zfg hh hw0 k, show (Zbf w0).length = w0.length by simp [Zbf], List.take_length]
 ·obtain ⟨o1, o2, acc, rfl, sm, e3, hnd, hm⟩ := hP
  rw [List.length_map, hH.1, List.take_length] at hm
  have hbd : ∀ k ∈ acc, 1 ≤ k ∧ k ≤ rs.length := fun k hk => Zba ((hm k).mp hk)
  have hal := Zci hnd hbd
  refine ⟨kd, _, rfl, e3, fun ob => ?_⟩
  have sm2 : Same H (upd H' kd (.frz ob (.dK (Zbn acc)))) := Zam hkd sm
  walk_at "rd"
  simp only [Zc8, Zgi, cxK]
  walk_at "rd"
  refine ⟨ob, _, upd_same, ?_⟩
  rw [show ZbK [some (V.ref p), some (V.ref d), some (V.ref g), some (V.ref kd), o1, o2] [0] = [some (V.ref p)] from rfl]
  have kl : (Zbn acc).length = acc.length := by unfold Zbn; rw [List.length_map]
  refine ZkZ RatV ZdJ (as := acc.map (Zah rs)) upd_same (by rw [List.length_map, kl]) (by omega) (fun i' kv' b' hi' hb' H3 kk os s6 ol hkk => ?_) (fun pq H6 ys hpq s6 e7 hL => ?_)
  ·obtain ⟨o', rfl⟩ : ∃ o', os = [o'] := by match os, ol with | [o'], _ => exact ⟨o', rfl⟩
   rw [List.getElem?_map] at hb'
   obtain ⟨k', hk', rfl⟩ : ∃ k', acc[i']? = some k' ∧ b' = Zah rs k' := by cases h : acc[i']? with | none => rw [h] at hb'; cases hb' | some k' => rw [h] at hb'; cases hb'; exact ⟨k', rfl, rfl⟩
   have ekv : kV kv'.1 = V.int (k' : Int) := by
    unfold Zbn at hi'
    rw [List.getElem?_map, hk'] at hi'
    cases hi'
    rfl
   rw [ekv]
   obtain ⟨b1, b2⟩ := hbd k' (List.mem_of_getElem? hk')
   walk_at "rd"
   refine ⟨[some (.int (k' : Int))], rfl, rfl, ?_⟩
   walk_at "rd"
   have hlt : k' - 1 < rs.length := by omega
   have hltx : k' - 1 < xs.length := by rw [hR.1]; exact hlt
   have sm3 := sm2.trans s6
   obtain ⟨pr, yr, exr, hpr, hyr⟩ := (hR.same sm3).2 (k' - 1) _ _ (List.getElem?_eq_getElem hltx) (List.getElem?_eq_getElem hlt)
   have hpa : Zah rs k' = rs[k' - 1].2 := by unfold Zah; rw [List.getElem?_eq_getElem hlt]; rfl
   refine ⟨xs, sm3 _ _ hp, .ref pr, ?_, pr, rfl, _, hpr, yr, rfl, hkk _ _ (fun _ _ z => z) (by rw [hpa]; exact hyr)⟩
   rw [show ((k' : Nat) : Int) - 1 = ((k' - 1 : Nat) : Int) by omega, ← exr]
   exact ZaE (List.getElem?_eq_getElem hltx)
  ·refine ⟨pq, ys, acc.map (Zah rs), rfl, e7, hL, ⟨fun i hi => ?_, fun i q h => ?_⟩, fun r H7 s7 v7 => q r H7 acc (sm2.trans (s6.trans s7)) hnd hm ?_⟩
   ·have e : Zfa (acc.map (Zah rs)) i = ZaU ((acc.take i).map (Zah rs)) := by unfold Zfa ZaU; rw [List.map_take]
    rw [e]
    rw [List.length_map] at hi
    exact (ZcA hz (acc.take i)).mono (by rw [List.length_take]; omega)
   ·rw [List.getElem?_map] at h
    obtain ⟨k', _, rfl⟩ := Option.map_eq_some_iff.mp h
    exact (Zeo hz k').mono (by decide)
   ·unfold Zfa at v7
    rw [List.take_length] at v7
    exact v7
end
theorem ZjD {p q : Rat} : p.num * (q.den : Int) < q.num * (p.den : Int) ↔ p < q := (Rat.lt_iff p q).symm
def Zf8 : Sp := fun vs H Q _ => ∃ (x y : V) (p q : Rat), vs = [x, y] ∧ RatV H x p ∧ RatV H y q ∧ SzQ 3000 p ∧ SzQ 3000 q ∧ Q (.bl (decide (p < q))) H
def sp_far (pt C : Addr) : Sp := fun vs H Q _ => ∃ (x : V) (rs : List (Nat × Rat)) (d : Addr) (kvs : List (Key × V)) (ss : List Str) (hf : Str → Nat), vs = [x, .ref d] ∧ TreeV C H x rs ∧ Rd H d (.dK kvs) ∧ (kvs.map fun kv => kV kv.1) = ss.map V.str ∧ (∀ gs : List Str, (∀ z ∈ gs, z ∈ ss) → Zcl kvs gs (gs.map hf) rs.length) ∧ rs.length ≤ 20 ∧ ss.length < 50 ∧ Zcx rs ∧ ZfX H pt "far_roads_first.<locals>.<lambda>" ∧
 ∀ p H' (fr : List Nat), H p = none → Same H H' → H' p = some (.lst (Zbf fr)) → fr.Nodup → (∀ k, k ∈ fr ↔ Zcs rs (ss.map hf) k) → fr.Pairwise (fun a b => (wayL rs b).length ≤ (wayL rs a).length) → Q (.ref p) H'
noncomputable def kyW (rs : List (Nat × Rat)) (v : V) : Int := match v with | .int i => ((wayL rs i.toNat).length : Nat) | _ => 0
def ZhO (v : V) : Nat := match v with | .int i => i.toNat | _ => 0
theorem ZhQ {rs : List (Nat × Rat)} {ks : List Nat} {ys : List V} (h : Zeb true ((Zbf ks).map (kyW rs)) (Zbf ks) ys) : ∃ fr : List Nat, ys = Zbf fr ∧ fr.Perm ks ∧ fr.Pairwise (fun a b => (wayL rs b).length ≤ (wayL rs a).length) := by
 obtain ⟨ps, hp, rfl, hw⟩ := h
 have ez : ((Zbf ks).map (kyW rs)).zip (Zbf ks) = ks.map fun k : Nat => ((((wayL rs k).length : Nat) : Int), V.int (k : Int)) := by
  unfold Zbf
  rw [List.map_map, List.zip_map']
  exact List.map_congr_left fun k _ => by simp [kyW]
 rw [ez] at hp
 have hm : ∀ p ∈ ps, ∃ k : Nat, p = ((((wayL rs k).length : Nat) : Int), V.int (k : Int)) := fun p hpm => by
  obtain ⟨k, _, e⟩ := List.mem_map.mp (hp.mem_iff.mp hpm)
  exact ⟨k, e.symm⟩
 refine ⟨ps.map fun p => ZhO p.2, ?_, ?_, ?_⟩
 ·unfold Zbf
  rw [List.map_map]
  refine List.map_congr_left fun p hpm => ?_
  obtain ⟨k, rfl⟩ := hm p hpm
  simp [ZhO]
 ·have := hp.map fun p : Int × V => ZhO p.2
  rw [List.map_map] at this
  refine this.trans (List.Perm.of_eq ?_)
  rw [show ((fun p : Int × V => ZhO p.2) ∘ fun k : Nat => ((((wayL rs k).length : Nat) : Int), V.int (k : Int))) = id from funext fun k => by simp [ZhO], List.map_id]
 ·rw [List.pairwise_map]
  refine List.Pairwise.imp_of_mem (fun {a b} ha hb hab => ?_) hw
  obtain ⟨k, rfl⟩ := hm a ha
  obtain ⟨j, rfl⟩ := hm b hb
  simp [ZhO] at hab ⊢
  omega
section
variable {P : Program} {w : World} {K : PySem.W.Frag} {mg : Str → Option Value} {base : Heap} {f c pt : Addr} {fd : FuncData} {CT CNP : Addr}
theorem ZjF (F : Fun K "is_less" "is_less" ZbU f fd) : FnOk P w K mg base CX0 1 f fd ["one", "other"] Zf8 := by
 refine okQ F ZhZ (fun vs H Q E h => ?_) (fun cdv A outer s H vs Q E hr h => ?_)
 ·obtain ⟨x, y, p, t, rfl, _⟩ := h; rfl
 obtain ⟨x, y, p, t, rfl, ⟨a, rfl, ha⟩, ⟨b, rfl, hb⟩, z1, z2, q⟩ := h
 refine ⟨_, (Zai (Zay (q_lt (Zbi (ZaJ (q_v 0) Zad) (ZaJ (q_v 1) Zad)) (Zbi (ZaJ (q_v 1) Zad) (ZaJ (q_v 0) Zad))))), ?_⟩
 rw [show Zav ["one", "other"] [.ref a, .ref b] = [some (.ref a), some (.ref b)] from rfl]
 walk_at "rd"
 simp only [ha, hb]
 walk_at "rd"
 refine ⟨Zcj z1.1 (ZaP z2) (by decide), Zcj z2.1 (ZaP z1) (by decide), ?_⟩
 simp only [ZjD]
 exact q
theorem ok_far (F : Fun K "far_roads_first" "far_roads_first" ZaC f fd) (hc : fd.code = .ref c) (hC : PySem.W.codeHdIn K c pt = true) (hB : ZdF mg base) (n_len : mg "len" = none) (n_sorted : mg "sorted" = none) (n_list : mg "list" = none) (F_needed : Fn P w K mg base CX0 4 "needed" ["tree", "homes", "group"] (ZdU CT))
  (M_way : Mth P w K mg base CX0 3 CT "way" ["self", "k"] (fun vs H Q _ => Zgm CT CNP vs H Q E0)) : FnOk P w K mg base CX0 8 f fd ["tree", "homes"] (sp_far pt CT) := by
 refine okQc F hc ZcT (fun vs H Q E h => ?_) (fun A outer s H vs Q E hr h => ?_)
 ·obtain ⟨x, rs, d, kvs, ss, hf, rfl, _⟩ := h; rfl
 obtain ⟨x, rs, d, kvs, ss, hf, rfl, hT, hd, hkv, hat, hrl, hsl, hO, hB2, q⟩ := h
 refine ⟨_, (Zai (Zay (q_sortW rfl n_sorted (ZaY F_needed hr (by decide) rfl (a_c (q_v 0) (a_c (q_v 1) (a_c (ZfW rfl n_list (a_c (q_v 1) Zab)) Zab)))) (QE.mk (Zh2 (z := "tree") (y := "road") (i := 0) (k := 4) rfl rfl rfl rfl hC hB rfl hr ⟨rfl, rfl, rfl, by decide +kernel, by decide +kernel, by decide +kernel, by decide +kernel, fun y e => by have h := PySem.mem_of_lookup e; simp at h; subst h; exact ⟨_, rfl⟩⟩ rfl (Or.inr (Or.inl rfl)) (fun z => absurd ((show _ = some NameKind.cell from rfl).symm.trans z) (by decide)) (fun _ _ _ _ => rfl) (fun _ _ _ _ => ZbS rfl n_len (a_c (Zcv M_way (hr.in1.in1.deeper _) (by decide) (q_v 1) (a_c (q_v 0) Zab)) Zab)))) Zj8))), ?_⟩
 rw [show Zav ["tree", "homes"] [x, .ref d] = [some (x), some (.ref d)] from rfl]
 walk_at "rd"
 show Zf3 _ _ _ _ _ _ _
 walk_at "rd"
 refine ⟨d, kvs, rfl, hd, fun l H1 hl s1 e1 => ?_⟩
 rw [hkv] at e1
 refine ⟨x, rs, d, l, kvs, ss, ss.map hf, rfl, hT.same s1, Zcy hd s1, e1, hat ss fun _ hz => hz, by omega, hsl, hO, fun p H2 ks hp s2 e2 hpw hmem => ?_⟩
 have s12 := s1.trans s2
 have hbd : ∀ k ∈ ks, 1 ≤ k ∧ k ≤ rs.length := fun k hk => Zba ((hmem k).mp hk)
 have hkl := few_of hpw hbd
 refine ⟨let ⟨t, ht⟩ := hB2; ⟨t, s12 _ _ ht⟩, x, rfl, fun fv H3 s3 hfv => ⟨p, Zbf ks, kyW rs, rfl, s3 _ _ e2, by simp [Zbf]; omega, hfv _ _ fun y hy H' k sm hk => ?_, fun D H4 ys hD s4 e4 hs => ?_⟩⟩
 ·obtain ⟨k0, hk0, rfl⟩ := List.mem_map.mp hy
  obtain ⟨b1, b2⟩ := hbd k0 hk0
  have hT2 := hT.same (s12.trans (s3.trans sm))
  obtain ⟨xa, dx, la, wa, ls, ws, rfl, h1, _⟩ := id hT2
  walk_at "rd"
  refine ⟨dx, _, h1, rfl, .ref xa, rs, k0, rfl, hT2, fun p5 H5 k' w0 ek hp5 s5 e5 hw hwl => ⟨p5, rfl, _, .inl e5, ?_⟩, fun zz => absurd ⟨by omega, by omega⟩ zz⟩
  have e : k' = k0 := by omega
  subst e
  have e2 : kyW rs (.int (k' : Int)) = ((Zbf w0).length : Nat) := by simp [kyW, Zbf, Zb9 hw]
  rw [← e2]
  exact hk H5 s5
 ·obtain ⟨fr, rfl, hfp, hfw⟩ := ZhQ hs
  have hkn : ks.Nodup := hpw.imp fun h e => by rw [e] at h; exact Nat.lt_irrefl _ h
  exact q D H4 fr ((s12.trans s3).free hD) (s12.trans (s3.trans s4)) e4 (hfp.symm.nodup hkn) (fun k => (hfp.mem_iff).trans (hmem k)) hfw
end
def ZaG (B : Nat) (m : Int) : Rat := Rat.divInt m (B : Int)
theorem ZbT {B : Nat} (hB : 0 < B) {m n : Int} : ZaG B m < ZaG B n ↔ m < n := by
 rw [← Rat.not_le, ← Int.not_le]
 unfold ZaG
 rw [Rat.le_iff_sub_nonneg, Rat.divInt_sub_divInt _ _ (by omega) (by omega), ← Int.sub_mul, Rat.divInt_nonneg_iff_of_pos_right (Int.mul_pos (by omega) (by omega))]
 constructor
 ·intro h c
  exact h (Int.mul_nonneg (by omega) (by omega))
 ·intro h c
  refine h ?_
  have := Int.nonneg_of_mul_nonneg_left c (by omega : (0 : Int) < (B : Int))
  omega
theorem Zcq {B : Nat} (hB : 0 < B) (m n : Int) : ZaG B m + ZaG B n = ZaG B (m + n) := ZeP (by omega)
theorem Zdp {B : Nat} (hB : 0 < B) (m n : Int) : ZaG B m - ZaG B n = ZaG B (m - n) := by
 have := Zcq hB (m - n) n
 rw [Int.sub_add_cancel] at this
 rw [← this, Rat.sub_eq_add_neg, Rat.add_assoc, Rat.add_neg_cancel, Rat.add_zero]
theorem Zlg {B : Nat} (hB : 0 < B) {m n : Int} (h : ZaG B m = ZaG B n) : m = n := by
 have h1 : ¬ m < n := fun c => by have := (ZbT hB).mpr c; rw [h] at this; exact Rat.lt_irrefl this
 have h2 : ¬ n < m := fun c => by have := (ZbT hB).mpr c; rw [h] at this; exact Rat.lt_irrefl this
 omega
theorem Zb2 (B : Nat) : ZaG B 0 = 0 := Rat.zero_divInt _
theorem Zbo {B n : Nat} {m : Int} (hB : 0 < B) (h1 : B < 2 ^ n) (h2 : m.natAbs < 2 ^ n) : SzQ n (ZaG B m) := SzQ.of (by omega) h2 (by simpa using h1)
theorem Zdu {B : Nat} (hB : 0 < B) (m : Int) : (ZaG B m).den ∣ B := by
 have h1 : (ZaG B m).num * (B : Int) = m * ((ZaG B m).den : Int) := by
  have h := Rat.num_divInt_den (ZaG B m)
  have hd := (ZaG B m).den_pos
  exact (Rat.divInt_eq_divInt_iff (by omega) (by omega)).mp h
 have h2 : ((ZaG B m).den : Int) ∣ (ZaG B m).num * (B : Int) := ⟨m, by rw [h1, Int.mul_comm]⟩
 have h3 := Int.natAbs_dvd_natAbs.mpr h2
 rw [Int.natAbs_mul] at h3
 have hc : Nat.Coprime (ZaG B m).den (ZaG B m).num.natAbs := (ZaG B m).reduced.symm
 exact hc.dvd_of_dvd_mul_left (by simpa using h3)
theorem ZgH {B : Nat} (hB : 0 < B) (m : Int) : (ZaG B m).num < 0 ↔ m < 0 := by
 have h := @ZbT B hB m 0
 rw [Zb2, Rat.lt_iff] at h
 simp at h
 exact h
theorem ZlM {a b B : Nat} (ha : 0 < a) (h1 : a ∣ B) (h2 : b ∣ B) : Zhs a b ∣ B := by
 have : Zhs a b = Nat.lcm a b := by
  unfold Zhs Nat.lcm
  rw [Nat.mul_comm a b, Nat.mul_div_assoc _ (Nat.gcd_dvd_left a b), Nat.mul_comm]
 rw [this]
 exact Nat.lcm_dvd h1 h2
theorem ZgV {qs : List Rat} {B : Nat} (h : ∀ (i : Nat) q, qs[i]? = some q → q.den ∣ B) : ∀ i, i ≤ qs.length → Zg3 qs i ∣ B ∧ 0 < Zg3 qs i
 | 0, _ => ⟨Nat.one_dvd _, Nat.one_pos⟩
 | i + 1, hi => by
  have hq := List.getElem?_eq_getElem (show i < qs.length from hi)
  obtain ⟨h1, h2⟩ := ZgV h i (Nat.le_of_lt hi)
  rw [ZdS hq]
  exact ⟨ZlM h2 h1 (h i _ hq), ZgE h2 (qs[i]).den_pos⟩
theorem Zfr {B : Nat} {ms : List Int} (hB : 0 < B) (h1 : B < 2 ^ 2600) (h2 : ∀ m ∈ ms, m.natAbs < 2 ^ 2700) : LcOk (ms.map (ZaG B)) := by
 refine ⟨fun i q h => ?_, fun i hi => ?_⟩
 ·rw [List.getElem?_map] at h
  obtain ⟨m, hm, rfl⟩ := Option.map_eq_some_iff.mp h
  exact (Zbo (n := 2700) hB (Nat.lt_of_lt_of_le h1 (Nat.pow_le_pow_right (by decide) (by decide))) (h2 m (List.mem_of_getElem? hm))).mono (by decide)
 ·have h3 := ZgV (B := B) (fun i q h => by
   rw [List.getElem?_map] at h
   obtain ⟨m, _, rfl⟩ := Option.map_eq_some_iff.mp h
   exact Zdu hB m) i hi
  exact Nat.le_trans (Nat.le_of_dvd hB h3.1) (Nat.le_of_lt (Nat.lt_of_lt_of_le h1 (Nat.pow_le_pow_right (by decide) (by decide))))
theorem ZcJ {B : Nat} (hB : 0 < B) (ms : List Int) : ∀ i, i ≤ ms.length → Zfa (ms.map (ZaG B)) i = ZaG B (ms.take i).sum
 | 0, _ => (Zb2 B).symm
 | i + 1, hi => by
  have hm := List.getElem?_eq_getElem (show i < ms.length from hi)
  rw [ZcN (q := ZaG B ms[i]) (by rw [List.getElem?_map, hm]; rfl), ZcJ hB ms i (Nat.le_of_lt hi), Zcq hB, List.take_add_one, hm, List.sum_append]
  simp
theorem ZeY {B : Nat} (hB : 0 < B) (ms : List Int) : Zfa (ms.map (ZaG B)) (ms.map (ZaG B)).length = ZaG B ms.sum := by
 rw [List.length_map, ZcJ hB ms _ (Nat.le_refl _), List.take_length]
def Zfl : Sp := fun vs H Q _ => ∃ (d g : Addr) (o : Obj) (kvs : List (Key × V)) (ss gs : List Str), vs = [.ref d, .ref g] ∧ H d = some (.frz o (.dK kvs)) ∧ (kvs.map fun kv => kV kv.1) = ss.map V.str ∧ ss.length < 50 ∧ H g = some (.lst (gs.map V.str)) ∧
 ∀ p H' (ts : List Str), H p = none → Same H H' → H' p = some (.lst (ts.map V.str)) → ts.Pairwise leS → ts.Perm (ss.filter fun z => !decide (z ∈ gs)) → Q (.ref p) H'
def Zbb : Int → List Int → List Int
 | _, [] => []
 | d, l :: ls => min l d :: Zbb (d - min l d) ls
theorem Zfp : ∀ (d : Int) (ls : List Int), (Zbb d ls).length = ls.length
 | _, [] => rfl
 | d, l :: ls => by rw [Zbb, List.length_cons, List.length_cons, Zfp]
theorem Ze3 : ∀ (d : Int) (ls : List Int), 0 ≤ d → (∀ l ∈ ls, 0 ≤ l) → (∀ (i : Nat) l p, ls[i]? = some l → (Zbb d ls)[i]? = some p → 0 ≤ p ∧ p ≤ l ∧ p ≤ d) ∧ (d ≤ ls.sum → (Zbb d ls).sum = d)
 | d, [], _, _ => ⟨fun i l p h => by simp at h, fun h => by simp [Zbb] at h ⊢; omega⟩
 | d, l :: ls, hd, hl => by
  have h0 := hl l (.head _)
  obtain ⟨h1, h2⟩ := Ze3 (d - min l d) ls (by omega) fun x hx => hl x (.tail _ hx)
  refine ⟨fun i x p hx hp => ?_, fun hs => ?_⟩
  ·match i with
   | 0 => simp [Zbb] at hx hp; subst hx hp; omega
   | i + 1 =>
    rw [Zbb] at hp
    have := h1 i x p (by simpa using hx) (by simpa using hp)
    omega
  ·rw [Zbb, List.sum_cons]
   rw [List.sum_cons] at hs
   by_cases c : l ≤ d
   ·have : min l d = l := by omega
    rw [this] at h2 ⊢
    have := h2 (by omega)
    omega
   ·have e : min l d = d := by omega
    rw [e, Int.sub_self] at h2 ⊢
    have hz : ∀ x ∈ ls, 0 ≤ x := fun x hx => hl x (.tail _ hx)
    have hsum : 0 ≤ ls.sum := by
     clear h1 h2 hs hl
     induction ls with
     | nil => simp
     | cons y ys ih => rw [List.sum_cons]; have := hz y (.head _); have := ih fun x hx => hz x (.tail _ hx); omega
    have := h2 hsum
    omega
def RowsP (B : Nat) (H : Hp) (xs : List V) (ps : List (Str × Int)) : Prop := ListV (fun H v p => ∃ t r, v = .ref t ∧ H t = some (.tup [.str p.1, r]) ∧ RatV H r (ZaG B p.2)) H xs ps
def Zjb : Sp := fun vs H Q _ => ∃ (x : V) (g d : Addr) (lvs : List (Key × V)) (ts : List Str) (B : Nat) (c : Int) (l : Str → Int), vs = [x, .ref g, .ref d] ∧ RatV H x (ZaG B c) ∧ H g = some (.lst (ts.map V.str)) ∧ Rd H d (.dK lvs) ∧ (∀ z ∈ ts, ∃ v, Zdn lvs (Sum.inr z) = some v ∧ RatV H v (ZaG B (l z))) ∧ 0 < B ∧ B < 2 ^ 2600 ∧ 0 ≤ c ∧ c.natAbs < 2 ^ 2600 ∧ (∀ z ∈ ts, 0 ≤ l z ∧ (l z).natAbs < 2 ^ 2600) ∧ ts.length < 50 ∧
 ∀ p H' xs, H p = none → Same H H' → H' p = some (.lst xs) → RowsP B H' xs ((ts.zip (Zbb c (ts.map l))).filter fun p => decide (0 < p.2)) → Q (.ref p) H'
section
variable {P : Program} {w : World} {K : PySem.W.Frag} {mg : Str → Option Value} {base : Heap} {f : Addr} {fd : FuncData} {CT CNP : Addr}
theorem ZiE (F : Fun K "others" "others" Zcr f fd) (n_sorted : mg "sorted" = none) : FnOk P w K mg base CX0 1 f fd ["homes", "names"] Zfl := by
 refine okQ F ZiC (fun vs H Q E h => ?_) (fun cdv A outer s H vs Q E hr h => ?_)
 ·obtain ⟨d, g, o, kvs, ss, gs, rfl, _⟩ := h; rfl
 obtain ⟨d, g, o, kvs, ss, gs, rfl, hd, hkv, hl, hg, q⟩ := h
 refine ⟨_, (Zai (Zay (ZcO rfl n_sorted (a_c (Zgt (Zji ["name"] [1] ["names"]) (Zfy (q_v 0)) (by exact fun s H fp => (Zar 0 (show List.Nodup (["name", "names"] : List Str) from by decide +kernel))) (by exact fun s H fp => Zg5 (t_ninLK K (q_v 0) (q_v 1))) (by exact fun s H fp => (q_v 0))) Zab)))), ?_⟩
 rw [show Zav ["homes", "names"] [.ref d, .ref g] = [some (.ref d), some (.ref g)] from rfl]
 walk_at "rd"
 simp only [Zdi, Zgi]
 walk_at "rd"
 refine ⟨o, kvs, hd, ?_⟩
 rw [show ZbK [some (V.ref d), some (V.ref g)] [1] = [some (V.ref g)] from rfl]
 refine ZfL (fun z => !decide (z ∈ gs)) hd hkv (by omega) (fun z hz H' k sm hk => ?_) (fun p2 H2 hp2 s2 e2 => ?_)
 ·walk_at "rd"
  simp only [rIn]
  walk_at "rd"
  refine ⟨_, .inl (.of (sm _ _ hg)), rfl, Zit _, ?_⟩
  rw [inV_str]
  exact hk
 ·refine ⟨p2, rfl, _, e2, Nat.lt_of_le_of_lt (List.length_filter_le _ _) (by omega), fun l H3 ts hl s3 e3 hpw hpm => ?_⟩
  exact q l H3 ts (s2.free hl) (s2.trans s3) e3 hpw hpm
def Ppy (H0 : Hp) (x : V) (g d p : Addr) (B : Nat) (c : Int) (ts : List Str) (l : Str → Int) (i : Nat) (σ : St) (H : Hp) : Prop := ∃ (y : V) (o1 o2 : Option V) (due : Int) (xs : List V), σ = [some x, some (.ref g), some (.ref d), some (.ref p), some y, o1, o2] ∧ Same H0 H ∧ RatV H y (ZaG B due) ∧ 0 ≤ due ∧ due ≤ c ∧ H p = some (.lst xs) ∧
 ∃ pre, pre.length = i ∧ Zbb c (ts.map l) = pre ++ Zbb due ((ts.drop i).map l) ∧ RowsP B H xs (((ts.take i).zip pre).filter fun p => decide (0 < p.2))
theorem ok_pays (F : Fun K "payments" "payments" Zby f fd) (F_is_less : Fn P w K mg base CX0 1 "is_less" ["one", "other"] Zf8) (F_ratio_d : FnD P w K mg base CX0 2 "ratio" ["top", "bottom"] [.int 1] Zb0) (F_rest_of : Fn P w K mg base CX0 3 "rest_of" ["one", "other"] Zcp) : FnOk P w K mg base CX0 4 f fd ["price", "payers", "left"] Zjb := by
 refine okQ F sc_payments (fun vs H Q E h => ?_) (fun cdv A outer s H vs Q E hr h => ?_)
 ·obtain ⟨x, g, d, lvs, ts, B, c, l, rfl, _⟩ := h; rfl
 obtain ⟨x, g, d, lvs, ts, B, c, l, rfl, hx, hg, hd, hv, hB0, hB1, hc0, hc1, hl, htl, q⟩ := h
 refine ⟨_, (Zac (Zap 3 sc_payments.nd (Zdc Zab))
   (Zac (Zap 4 sc_payments.nd (q_v 0))
   (Zac (ZbQ PassesOwn.never (Zbm (q_v 1)) (Zar 5 sc_payments.nd) (Zac (Zap 6 sc_payments.nd (q_ifE (Zcb (ZaY F_is_less hr (by decide) rfl (a_c (ZbZ (ZbL hr) (q_v 2) (q_v 5)) (a_c (q_v 4) Zab)))) (ZbZ (ZbL hr) (q_v 2) (q_v 5)) (q_v 4)))
   (Zai (Zc0 (Zcb (ZaY F_is_less hr (by decide) rfl (a_c (q_fnD F_ratio_d hr (by decide) rfl (a_c Zad Zab)) (a_c (q_v 6) Zab)))) (Zac (Zbt (ZeM (q_v 3) (a_c (ZcH (a_c (q_v 5) (a_c (q_v 6) Zab))) Zab)))
   (Zai (Zap 4 sc_payments.nd (ZaY F_rest_of hr (by decide) rfl (a_c (q_v 4) (a_c (q_v 6) Zab)))))) Zbs))))
   (Zai (Zay (q_v 3)))))), ?_⟩
 rw [show Zav ["price", "payers", "left", "rows", "due", "name", "amount"] [x, .ref g, .ref d] = [some (x), some (.ref g), some (.ref d), none, none, none, none] from rfl]
 walk_at "rd"
 intro p H1 hp s1 e1
 simp only [Za6]
 walk_at "rd"
 have kpR : Zgp (fun H v (p : Str × Int) => ∃ t r, v = .ref t ∧ H t = some (.tup [.str p.1, r]) ∧ RatV H r (ZaG B p.2)) := fun H H' v p h s => let ⟨t, r, a1, a2, a3⟩ := h; ⟨t, r, a1, s _ _ a2, a3.keep s⟩
 refine Zbl (Ppy H x g d p B c ts l) ⟨x, _, _, c, [], rfl, s1, hx.same s1, hc0, by omega, e1, [], rfl, by simp, ⟨by simp, fun i v r h => by simp at h⟩⟩ (fun i σ H' _ ⟨_, _, _, _, _, _, sm, _⟩ => .of (sm _ _ hg)) (fun i y σ H' hi hP => ?_) (fun σ H' hP => ?_)
 ·obtain ⟨y0, o1, o2, due, xs, rfl, sm, hy, hd0, hd1, ep, pre, hpl, hpre, hR⟩ := hP
  rw [List.getElem?_map] at hi
  obtain ⟨z, hz, rfl⟩ := Option.map_eq_some_iff.mp hi
  have hzm := List.mem_of_getElem? hz
  have hil := (List.getElem?_eq_some_iff.mp hz).1
  obtain ⟨v, ev, rv⟩ := hv z hzm
  obtain ⟨hl0, hl1⟩ := hl z hzm
  have szl : SzQ 3000 (ZaG B (l z)) := (Zbo hB0 hB1 hl1).mono (by decide)
  have szd : SzQ 3000 (ZaG B due) := (Zbo hB0 hB1 (Nat.lt_of_le_of_lt (by omega) hc1)).mono (by decide)
  have hdr : (ts.drop i).map l = l z :: (ts.drop (i + 1)).map l := by rw [List.drop_eq_getElem_cons hil, List.map_cons, (List.getElem?_eq_some_iff.mp hz).2]
  have htk : ts.take (i + 1) = ts.take i ++ [z] := by rw [List.take_add_one, hz]; rfl
  have hpre2 : Zbb c (ts.map l) = (pre ++ [min (l z) due]) ++ Zbb (due - min (l z) due) ((ts.drop (i + 1)).map l) := by rw [hpre, hdr, Zbb, List.append_assoc]; rfl
  have hzp : ((ts.take (i + 1)).zip (pre ++ [min (l z) due])).filter (fun p => decide (0 < p.2)) = ((ts.take i).zip pre).filter (fun p => decide (0 < p.2)) ++ (if 0 < min (l z) due then [(z, min (l z) due)] else []) := by
   rw [htk, List.zip_append (by rw [List.length_take, hpl]; omega), List.filter_append]
   congr 1
   by_cases c0 : 0 < min (l z) due
   ·rw [if_pos c0]; simp [c0]
   ·rw [if_neg c0]; simp [c0]
  refine ZaR fun R0 hR0 => ?_
  suffices fin : ∀ u : V, RatV H' u (ZaG B (min (l z) due)) → R0 [some x, some (.ref g), some (.ref d), some (.ref p), some y0, some (.str z), some u] H' by
   walk_at "rd"
   refine ⟨lvs, Zcy hd sm, .inr z, rfl, v, ev, v, y0, _, _, rfl, rv.same sm, hy, szl, szd, _, rfl, ?_⟩
   by_cases c0 : l z < due
   ·rw [if_pos (decide_eq_true ((ZbT hB0).mpr c0))]
    refine ⟨lvs, Zcy hd sm, .inr z, rfl, v, ev, fin v ?_⟩
    rw [show min (l z) due = l z by omega]
    exact rv.same sm
   ·rw [if_neg (by rw [decide_eq_true_eq, ZbT hB0]; exact c0)]
    refine fin y0 ?_
    rw [show min (l z) due = due by omega]
    exact hy
  intro u hu
  have szu : SzQ 3000 (ZaG B (min (l z) due)) := (Zbo hB0 hB1 (Nat.lt_of_le_of_lt (by omega) hc1)).mono (by decide)
  subst hR0
  walk_at "rd"
  refine ⟨_, _, rfl, Big.of (n := 1) (by decide) (by decide), by decide, fun r0 H2 s2 v2 => ?_⟩
  have e0 : Rat.divInt 0 1 = ZaG B 0 := by rw [Zb2]; exact Rat.zero_divInt 1
  rw [e0] at v2
  have sz0 : SzQ 3000 (ZaG B 0) := by rw [Zb2]; exact Zc9 (by decide)
  refine ⟨r0, u, _, _, rfl, v2, hu.same s2, sz0, szu, _, rfl, ?_⟩
  by_cases c0 : 0 < min (l z) due
  ·rw [if_pos (decide_eq_true ((ZbT hB0).mpr c0))]
   refine ⟨⟨_, s2 _ _ ep⟩, fun t H3 ht s3 e3 => ?_⟩
   have s23 := s2.trans s3
   have ep3 := s23 _ _ ep
   have kp : ∀ b ys, H3 b = some (.tup ys) → upd H3 p (.lst (xs ++ [.ref t])) b = some (.tup ys) := fun b ys e => by rw [Zae (ZbI e ep3 (by intro z; cases z))]; exact e
   have hxl : xs.length < 1000000 := by
    rw [hR.1]
    refine Nat.lt_of_le_of_lt (List.length_filter_le _ _) ?_
    rw [List.length_zip, List.length_take]
    omega
   refine ⟨xs, ep3, hxl, y0, u, _, _, rfl, (hy.same s23).keep kp, (hu.same s23).keep kp, szd, szu, fun r4 H4 s4 v4 => ?_⟩
   rw [Zdp hB0] at v4
   refine ⟨r4, _, _, due - min (l z) due, xs ++ [.ref t], rfl, (Zam hp (sm.trans s23)).trans s4, v4, by omega, by omega, s4 _ _ upd_same, pre ++ [min (l z) due], by simp [hpl], hpre2, ?_⟩
   rw [hzp, if_pos c0]
   exact ((((hR.keep kpR fun b ys e => s23 _ _ e).keep kpR kp).snoc ⟨t, u, rfl, kp _ _ e3, (hu.same s23).keep kp⟩)).keep kpR fun b ys e => s4 _ _ e
  ·rw [if_neg (by rw [decide_eq_true_eq, ZbT hB0]; exact c0)]
   have ez : min (l z) due = 0 := by omega
   refine ⟨y0, _, _, due, xs, rfl, sm.trans s2, hy.same s2, hd0, hd1, s2 _ _ ep, pre ++ [min (l z) due], by simp [hpl], ?_, ?_⟩
   ·rw [hpre2, ez, Int.sub_zero]
   ·rw [hzp, if_neg c0, List.append_nil]
    exact hR.keep kpR fun b ys e => s2 _ _ e
 ·obtain ⟨y0, o1, o2, due, xs, rfl, sm, hy, hd0, hd1, ep, pre, hpl, hpre, hR⟩ := hP
  walk_at "rd"
  rw [List.length_map, List.drop_length, List.map_nil, Zbb, List.append_nil] at hpre
  rw [List.length_map, List.take_length, ← hpre] at hR
  exact q p H' xs hp sm ep hR
end
def ShV (H : Hp) (svs : List (Key × V)) (ss : List Str) (qf : Str → Rat) : Prop := svs.length = ss.length ∧ ∀ (i : Nat) z, ss[i]? = some z → ∃ v, svs[i]? = some (Sum.inr z, v) ∧ RatV H v (qf z)
theorem ShV.keep {H H' : Hp} {svs : List (Key × V)} {ss : List Str} {qf : Str → Rat} (h : ShV H svs ss qf) (s : ∀ b ys, H b = some (.tup ys) → H' b = some (.tup ys)) : ShV H' svs ss qf := ⟨h.1, fun i z e => let ⟨v, e1, r⟩ := h.2 i z e; ⟨v, e1, r.keep s⟩⟩
theorem ShV.keys {H : Hp} {svs : List (Key × V)} {ss : List Str} {qf : Str → Rat} (h : ShV H svs ss qf) : svs.map (·.1) = ss.map Sum.inr := by
 refine List.ext_getElem? fun i => ?_
 rw [List.getElem?_map, List.getElem?_map]
 cases e : ss[i]? with
 | none => rw [List.getElem?_eq_none (by rw [h.1]; exact List.getElem?_eq_none_iff.mp e)]; rfl
 | some z => obtain ⟨v, e1, _⟩ := h.2 i z e; rw [e1]; rfl
theorem Zf0 : ∀ {svs : List (Key × V)} {i : Nat} {k : Key} {v : V}, svs[i]? = some (k, v) → (svs.map (·.1)).Nodup → Zdn svs k = some v
 | [], i, k, v, h, _ => by cases h
 | kv :: svs, 0, k, v, h, _ => by cases h; exact ZcI rfl
 | kv :: svs, i + 1, k, v, h, hn => by
  rw [List.map_cons, List.nodup_cons] at hn
  have hm : (k, v) ∈ svs := List.mem_of_getElem? h
  rw [ZcQ (fun e => hn.1 (List.mem_map.mpr ⟨_, hm, e.symm⟩))]
  exact Zf0 h hn.2
theorem ZfH {ss : List Str} (h : ss.Nodup) : (ss.map (Sum.inr : Str → Key)).Nodup := List.Pairwise.map _ (fun _ _ hne e => hne (by injection e)) h
theorem ShV.val {H : Hp} {svs : List (Key × V)} {ss : List Str} {qf : Str → Rat} (h : ShV H svs ss qf) (hn : ss.Nodup) : ∀ z ∈ ss, ∃ v, Zdn svs (Sum.inr z) = some v ∧ RatV H v (qf z) := fun z hz => by
 obtain ⟨i, hi, e⟩ := List.getElem_of_mem hz
 obtain ⟨v, e1, r⟩ := h.2 i z (by rw [List.getElem?_eq_getElem hi, e])
 exact ⟨v, Zf0 e1 (by rw [h.keys]; exact ZfH hn), r⟩
theorem ZhW {svs : List (Key × V)} {k : Key} {v : V} (h : k ∉ svs.map (·.1)) : Zbr svs k v = svs ++ [(k, v)] := by
 unfold Zbr
 rw [if_neg]
 intro c
 obtain ⟨kv, h1, h2⟩ := List.any_eq_true.mp c
 exact h (List.mem_map.mpr ⟨kv, h1, by simpa using h2⟩)
theorem ShV.snoc {H : Hp} {svs : List (Key × V)} {ss : List Str} {qf : Str → Rat} {z : Str} {v : V} (h : ShV H svs ss qf) (hz : z ∉ ss) (r : RatV H v (qf z)) : ShV H (Zbr svs (Sum.inr z) v) (ss ++ [z]) qf := by
 rw [ZhW (by rw [h.keys]; intro c; obtain ⟨y, hy, e⟩ := List.mem_map.mp c; injection e with e; exact hz (e ▸ hy))]
 refine ⟨by simp [h.1], fun i y e => ?_⟩
 by_cases c : i < ss.length
 ·rw [List.getElem?_append_left c] at e
  rw [List.getElem?_append_left (by rw [h.1]; exact c)]
  exact h.2 i y e
 ·have hi : i = ss.length := by have := (List.getElem?_eq_some_iff.mp e).1; simp at this; omega
  subst hi
  rw [List.getElem?_append_right (Nat.le_refl _)] at e
  rw [← h.1, List.getElem?_append_right (Nat.le_refl _)]
  simp at e
  subst e
  exact ⟨v, by simp, r⟩
theorem ShV.put {H : Hp} {svs : List (Key × V)} {ss : List Str} {qf qg : Str → Rat} {z : Str} {v : V} (h : ShV H svs ss qf) (hz : z ∈ ss) (r : RatV H v (qg z)) (hq : ∀ y, y ≠ z → qg y = qf y) : ShV H (Zbr svs (Sum.inr z) v) ss qg := by
 have hk : (svs.any fun kv => decide (kv.1 = (Sum.inr z : Key))) = true := by
  have : (Sum.inr z : Key) ∈ svs.map (·.1) := by rw [h.keys]; exact List.mem_map.mpr ⟨z, hz, rfl⟩
  obtain ⟨kv, h1, h2⟩ := List.mem_map.mp this
  exact List.any_eq_true.mpr ⟨kv, h1, by simpa using h2⟩
 unfold Zbr
 rw [if_pos (by simpa using hk)]
 refine ⟨by rw [List.length_map]; exact h.1, fun i y e => ?_⟩
 obtain ⟨u, e1, r1⟩ := h.2 i y e
 rw [List.getElem?_map, e1]
 by_cases c : y = z
 ·subst c
  exact ⟨v, by simp, r⟩
 ·exact ⟨u, by simp [c], by rw [hq y c]; exact r1⟩
theorem ZfU {rs : List (Nat × Rat)} {h : Nat} {w : List Nat} (hw : WayR rs h w) : ∀ k ∈ w, ∃ w', WayR rs k w' ∧ w' <:+ w ∧ k ∈ w' := by
 induction hw with
 | nil => intro k hk; cases hk
 | @cons j r w hr hw' ih =>
  intro k hk
  rcases List.mem_cons.mp hk with rfl | hk
  ·exact ⟨_, .cons hr hw', List.suffix_refl _, .head _⟩
  ·obtain ⟨w', h1, h2, h3⟩ := ih k hk
   exact ⟨w', h1, h2.trans (List.suffix_cons _ _), h3⟩
theorem ZiK {rs : List (Nat × Rat)} {h k r : Nat} {w : List Nat} (hw : WayR rs h w) (hk : k ∈ w) (hr : r ∈ w) (hl : (wayL rs r).length ≤ (wayL rs k).length) : r ∈ wayL rs k := by
 obtain ⟨wk, h1, h2, _⟩ := ZfU hw k hk
 obtain ⟨wr, h3, h4, h5⟩ := ZfU hw r hr
 rw [Zb9 h1] at hl ⊢
 rw [Zb9 h3] at hl
 exact (List.suffix_of_suffix_length_le h4 h2 hl).subset h5
theorem ZiO {rs : List (Nat × Rat)} {h k r : Nat} {w : List Nat} (hw : WayR rs h w) (hk : k ∈ w) (hr : r ∈ wayL rs k) : r ∈ w := by
 obtain ⟨wk, h1, h2, _⟩ := ZfU hw k hk
 rw [Zb9 h1] at hr
 exact h2.subset hr
def sm {α : Type} (l : List α) (f : α → Int) : Int := (l.map f).sum
theorem ZgX {α : Type} (f : α → Int) : sm [] f = 0 := rfl
theorem ZaA {α : Type} (x : α) (l : List α) (f : α → Int) : sm (x :: l) f = f x + sm l f := by unfold sm; rw [List.map_cons, List.sum_cons]
theorem ZfE {α : Type} (l m : List α) (f : α → Int) : sm (l ++ m) f = sm l f + sm m f := by unfold sm; rw [List.map_append, List.sum_append]
theorem ZfC {α : Type} (l : List α) (f g : α → Int) : sm l (fun x => f x + g x) = sm l f + sm l g := by
 induction l with
 | nil => rfl
 | cons x l ih => rw [ZaA, ZaA, ZaA, ih]; omega
theorem Zhb {α : Type} (l : List α) (f g : α → Int) : sm l (fun x => f x - g x) = sm l f - sm l g := by
 induction l with
 | nil => rfl
 | cons x l ih => rw [ZaA, ZaA, ZaA, ih]; omega
theorem Zk3 {α : Type} {l : List α} {f g : α → Int} (h : ∀ x ∈ l, f x ≤ g x) : sm l f ≤ sm l g := by
 induction l with
 | nil => exact Int.le_refl _
 | cons x l ih => rw [ZaA, ZaA]; have := h x (.head _); have := ih fun y hy => h y (.tail _ hy); omega
theorem ZbN {α : Type} {l : List α} {f g : α → Int} (h : ∀ x ∈ l, f x = g x) : sm l f = sm l g := by
 unfold sm
 rw [List.map_congr_left h]
theorem ZcE {α : Type} {l : List α} {f : α → Int} (h : ∀ x ∈ l, f x = 0) : sm l f = 0 := by
 rw [ZbN h]
 induction l with
 | nil => rfl
 | cons x l ih => rw [ZaA, ih fun y hy => h y (.tail _ hy)]; rfl
theorem ZdG {α : Type} {l : List α} {f : α → Int} (h : ∀ x ∈ l, 0 ≤ f x) : 0 ≤ sm l f := by
 have := Zk3 (f := fun _ => 0) h
 rw [ZcE fun _ _ => rfl] at this
 exact this
theorem ZdO {α : Type} {l : List α} {f : α → Int} (h : ∀ x ∈ l, 0 ≤ f x) {x : α} (hx : x ∈ l) : f x ≤ sm l f := by
 induction l with
 | nil => cases hx
 | cons y l ih =>
  rw [ZaA]
  have h0 := h y (.head _)
  have h1 := ZdG fun z hz => h z (.tail _ hz)
  rcases List.mem_cons.mp hx with rfl | hx
  ·omega
  ·have := ih (fun z hz => h z (.tail _ hz)) hx
   omega
theorem ZfZ {α β : Type} (l : List α) (m : List β) (f : α → β → Int) : sm l (fun x => sm m (f x)) = sm m (fun y => sm l (fun x => f x y)) := by
 induction l with
 | nil => rw [ZgX]; exact (ZcE fun _ _ => rfl).symm
 | cons x l ih => rw [ZaA, ih, ← ZfC]; exact ZbN fun y _ => (ZaA x l fun x => f x y).symm
theorem Zda {α : Type} {l m : List α} (h : l.Perm m) (f : α → Int) : sm l f = sm m f := by
 induction h with
 | nil => rfl
 | cons x _ ih => rw [ZaA, ZaA, ih]
 | swap x y l => rw [ZaA, ZaA, ZaA, ZaA]; omega
 | trans _ _ ih1 ih2 => exact ih1.trans ih2
theorem Zbg {α : Type} (l : List α) (p : α → Bool) (f : α → Int) : sm (l.filter p) f = sm l (fun x => if p x = true then f x else 0) := by
 induction l with
 | nil => rfl
 | cons x l ih =>
  rw [ZaA]
  by_cases c : p x = true
  ·rw [List.filter_cons_of_pos c, ZaA, ih, if_pos c]
  ·rw [List.filter_cons_of_neg c, ih, if_neg c]; omega
theorem ZgD {α : Type} (l : List α) (p : α → Bool) (f : α → Int) : sm l f = sm (l.filter p) f + sm (l.filter fun x => !p x) f := by
 rw [Zbg, Zbg, ← ZfC]
 refine ZbN fun x _ => ?_
 cases p x <;> simp
theorem Zc6 {α : Type} [DecidableEq α] {l : List α} (hn : l.Nodup) {r : α} (hr : r ∈ l) (f : α → Int) : sm l (fun k => if k = r then f k else 0) = f r := by
 induction l with
 | nil => cases hr
 | cons x l ih =>
  rw [ZaA]
  rw [List.nodup_cons] at hn
  by_cases c : x = r
  ·subst c
   rw [if_pos rfl, ZcE fun y hy => if_neg (fun e : y = x => hn.1 (by rw [← e]; exact hy))]
   omega
  ·rw [if_neg c, ih hn.2 (by rcases List.mem_cons.mp hr with h | h; exact absurd h.symm c; exact h)]
   omega
structure PayOk (rs : List (Nat × Rat)) (hf : Str → Nat) (ss : List Str) (cs : Nat → Int) (D : List Nat) (pay : Nat → Str → Int) : Prop where
 nn : ∀ k z, 0 ≤ pay k z
 on : ∀ k z, pay k z ≠ 0 → k ∈ D ∧ z ∈ ss ∧ k ∈ wayL rs (hf z)
 full : ∀ k ∈ D, sm ss (pay k) = cs k
def ZiL (rs : List (Nat × Rat)) (hf : Str → Nat) (cs : Nat → Int) (a : Str → Int) (G : List Str) : Prop := ∀ acc : List Nat, acc.Nodup → (∀ k, k ∈ acc ↔ Zcs rs (G.map hf) k) → sm acc cs < sm G a
theorem ZbP {rs : List (Nat × Rat)} {hf : Str → Nat} {G : List Str} {k : Nat} (hO : ∀ z ∈ G, WayR rs (hf z) (wayL rs (hf z))) : Zcs rs (G.map hf) k ↔ ∃ z ∈ G, k ∈ wayL rs (hf z) := by
 rw [Zks]
 constructor
 ·rintro ⟨z, hz, w, hw, hk⟩
  exact ⟨z, hz, by rw [Zb9 hw]; exact hk⟩
 ·rintro ⟨z, hz, hk⟩
  exact ⟨z, hz, _, hO z hz, hk⟩
theorem ZiM {fr acc : List Nat} {cs g : Nat → Int} (hn : acc.Nodup) (hfn : fr.Nodup) (hs : ∀ k ∈ acc, k ∈ fr) (hg : ∀ k ∈ fr, k ∉ acc → 0 ≤ cs k - g k) (hg2 : ∀ k ∈ acc, g k = 0) : sm acc cs ≤ sm fr cs - sm fr g := by
 have hp : acc.Perm (fr.filter fun k => decide (k ∈ acc)) := (List.perm_ext_iff_of_nodup hn (hfn.filter _)).mpr fun k => by
  rw [List.mem_filter]
  simp
  exact fun h => hs k h
 rw [Zda hp, Zbg, ← Zhb]
 refine Zk3 fun k hk => ?_
 by_cases c : k ∈ acc
 ·rw [if_pos (by simpa using c), hg2 k c]; omega
 ·rw [if_neg (by simpa using c)]; exact hg k hk c
theorem ZjC {rs : List (Nat × Rat)} {hf : Str → Nat} {ss U G : List Str} {cs : Nat → Int} {a : Str → Int} {D rest : List Nat} {r : Nat} {pay : Nat → Str → Int} (hO : ∀ z ∈ ss, WayR rs (hf z) (wayL rs (hf z))) (hfn : (D ++ r :: rest).Nodup)
  (hm : ∀ k, k ∈ D ++ r :: rest ↔ Zcs rs (ss.map hf) k) (hw : (D ++ r :: rest).Pairwise (fun a b => (wayL rs b).length ≤ (wayL rs a).length)) (hc : ∀ k, 0 ≤ cs k) (hP : PayOk rs hf ss cs D pay) (ht : sm (D ++ r :: rest) cs = sm ss a)
  (hU : U.Perm (ss.filter fun z => decide (r ∈ wayL rs (hf z)))) (hlt : sm U (fun z => a z - sm (D ++ r :: rest) (fun k => pay k z)) < cs r) (hG : G.Perm (ss.filter fun z => !decide (z ∈ U))) : ZiL rs hf cs a G := by
 intro acc han ham
 have hUm : ∀ z, z ∈ U ↔ z ∈ ss ∧ r ∈ wayL rs (hf z) := fun z => by rw [hU.mem_iff, List.mem_filter]; simp
 have hGm : ∀ z, z ∈ G ↔ z ∈ ss ∧ z ∉ U := fun z => by rw [hG.mem_iff, List.mem_filter]; simp
 have hOG : ∀ z ∈ G, WayR rs (hf z) (wayL rs (hf z)) := fun z hz => hO z ((hGm z).mp hz).1
 -- what those who use r have paid, road by road
 let u : Nat → Int := fun k => sm U (pay k)
 let g : Nat → Int := fun k => u k + if k = r then cs k else 0
 have hrf : r ∈ D ++ r :: rest := by simp
 have hrD : r ∉ D := fun c => (List.nodup_append.mp hfn).2.2 r c r (.head _) rfl
 have eU : sm ss (fun z => if decide (z ∈ U) = true then a z else 0) = sm U a := by
  rw [← Zbg]
  refine Zda ?_ a
  refine List.Perm.trans (List.Perm.of_eq ?_) hU.symm
  refine List.filter_congr fun z hz => ?_
  rw [decide_eq_decide, hUm]
  exact ⟨fun h => h.2, fun h => ⟨hz, h⟩⟩
 have e1 : sm ss a = sm U a + sm G a := by
  rw [ZgD ss (fun z => decide (z ∈ U)), Zbg ss (fun z => decide (z ∈ U)), eU, Zda hG]
 have e2 : sm U (fun z => a z - sm (D ++ r :: rest) (fun k => pay k z)) = sm U a - sm (D ++ r :: rest) u := by
  rw [Zhb, ZfZ]
 have e3 : sm (D ++ r :: rest) g = sm (D ++ r :: rest) u + cs r := by
  rw [ZfC, Zc6 hfn hrf]
 have hu : ∀ k, u k ≤ cs k ∨ k ∉ D := fun k => by
  by_cases c : k ∈ D
  ·left
   have : sm U (pay k) ≤ sm ss (pay k) := by
    rw [Zda hU, Zbg]
    refine Zk3 fun z _ => ?_
    split
    ·exact Int.le_refl _
    ·exact hP.nn k z
   rw [hP.full k c] at this
   exact this
  ·exact .inr c
 have hu0 : ∀ k, k ∉ D → u k = 0 := fun k c => ZcE fun z _ => by
  by_cases h : pay k z = 0
  ·exact h
  ·exact absurd (hP.on k z h).1 c
 have key := ZiM (cs := cs) (g := g) han hfn (fun k hk => ?_) (fun k hk hka => ?_) fun k hk => ?_
 ·omega
 ·-- a road needed by others is needed by all
  obtain ⟨z, hz, hkz⟩ := (ZbP hOG).mp ((ham k).mp hk)
  exact (hm k).mpr ((ZbP hO).mpr ⟨z, ((hGm z).mp hz).1, hkz⟩)
 ·show 0 ≤ cs k - (u k + if k = r then cs k else 0)
  by_cases c : k = r
  ·rw [if_pos c, hu0 k (c ▸ hrD)]; omega
  ·rw [if_neg c]
   rcases hu k with h | h
   ·omega
   ·rw [hu0 k h]; have := hc k; omega
 ·show u k + (if k = r then cs k else 0) = 0
  obtain ⟨z, hz, hkz⟩ := (ZbP hOG).mp ((ham k).mp hk)
  obtain ⟨hzs, hzU⟩ := (hGm z).mp hz
  have hkr : k ≠ r := fun c => hzU ((hUm z).mpr ⟨hzs, c ▸ hkz⟩)
  rw [if_neg hkr, Int.add_zero]
  refine ZcE fun z' hz' => ?_
  by_cases h : pay k z' = 0
  ·exact h
  ·obtain ⟨hkD, hz's, hkz'⟩ := hP.on k z' h
   have hl : (wayL rs r).length ≤ (wayL rs k).length := (List.pairwise_append.mp hw).2.2 k hkD r (.head _)
   have hrk : r ∈ wayL rs k := ZiK (hO z' hz's) hkz' ((hUm z').mp hz').2 hl
   exact absurd ((hUm z).mpr ⟨hzs, ZiO (hO z hzs) hkz hrk⟩) hzU
structure Jd (H : Hp) (CT : Addr) (x : V) (d sd : Addr) (rs : List (Nat × Rat)) (o : Obj) (kvs svs : List (Key × V)) (ss : List Str) (hf : Str → Nat) (B : Nat) (a : Str → Int) (cs : Nat → Int) : Prop where
 tree : TreeV CT H x rs
 home : H d = some (.frz o (.dK kvs))
 keys : kvs.map (·.1) = ss.map Sum.inr
 share : Rd H sd (.dK svs)
 shv : ShV H svs ss (fun z => ZaG B (a z))
 nd : ss.Nodup
 few : ss.length ≤ 12
 hat : ∀ gs : List Str, (∀ z ∈ gs, z ∈ ss) → Zcl kvs gs (gs.map hf) rs.length
 rl : rs.length ≤ 20
 ok : Zcx rs
 sz : ∀ r ∈ rs, SzQ 110 r.2
 b0 : 0 < B
 b1 : B < 2 ^ 2600
 az : ∀ z ∈ ss, (a z).natAbs < 2 ^ 2600
 c0 : ∀ k, 0 ≤ cs k
 cz : ∀ k, (cs k).natAbs < 2 ^ 2600
 pr : ∀ k, 1 ≤ k → k ≤ rs.length → Zah rs k = ZaG B (cs k)
 tot : ∀ ks : List Nat, ks.Nodup → (∀ k, k ∈ ks ↔ Zcs rs (ss.map hf) k) → sm ks cs = sm ss a
section
variable {H : Hp} {CT : Addr} {x : V} {d sd : Addr} {rs : List (Nat × Rat)} {o : Obj} {kvs svs : List (Key × V)} {ss : List Str} {hf : Str → Nat} {B : Nat} {a : Str → Int} {cs : Nat → Int}
theorem Jd.same (J : Jd H CT x d sd rs o kvs svs ss hf B a cs) {H' : Hp} (s : Same H H') : Jd H' CT x d sd rs o kvs svs ss hf B a cs :=
 { J with tree := J.tree.same s, home := s _ _ J.home, share := Zcy J.share s, shv := J.shv.keep fun b ys e => s _ _ e }
theorem Jd.kv (J : Jd H CT x d sd rs o kvs svs ss hf B a cs) : (kvs.map fun kv => kV kv.1) = ss.map V.str := by
 have := congrArg (List.map kV) J.keys
 rw [List.map_map, List.map_map] at this
 exact this
theorem Jd.kl (J : Jd H CT x d sd rs o kvs svs ss hf B a cs) : kvs.length = ss.length := by have := congrArg List.length J.keys; simpa using this
theorem Jd.way (J : Jd H CT x d sd rs o kvs svs ss hf B a cs) : ∀ z ∈ ss, WayR rs (hf z) (wayL rs (hf z)) := fun z hz => by
 have h := (J.hat [z] (fun y hy => by rw [List.mem_singleton.mp hy]; exact hz)).2 0 z (hf z) rfl rfl
 obtain ⟨w, hw, _⟩ := Zcn J.ok h.2
 rw [Zb9 hw]
 exact hw
theorem Jd.price (J : Jd H CT x d sd rs o kvs svs ss hf B a cs) {ks : List Nat} (h : ∀ k ∈ ks, 1 ≤ k ∧ k ≤ rs.length) : sumP rs ks = ZaG B (sm ks cs) := by
 unfold sumP
 have e : ks.map (Zah rs) = (ks.map cs).map (ZaG B) := by
  rw [List.map_map]
  exact List.map_congr_left fun k hk => J.pr k (h k hk).1 (h k hk).2
 rw [e, ZcJ J.b0 _ _ (by simp), List.take_of_length_le (by simp)]
 rfl
end
theorem sm_lt {ss : List Str} {a : Str → Int} (hl : ss.length ≤ 12) (h : ∀ z ∈ ss, (a z).natAbs < 2 ^ 2600) : (sm ss a).natAbs < 2 ^ 2700 := by
 have : ∀ l : List Str, (∀ z ∈ l, (a z).natAbs < 2 ^ 2600) → (sm l a).natAbs ≤ l.length * 2 ^ 2600 := by
  intro l
  induction l with
  | nil => intro _; simp [ZgX]
  | cons z l ih =>
   intro h
   have h1 := ih fun y hy => h y (.tail _ hy)
   have h2 := h z (.head _)
   rw [ZaA, List.length_cons, Nat.add_mul, Nat.one_mul]
   refine Nat.le_trans (Int.natAbs_add_le _ _) ?_
   omega
 have h1 := this ss h
 refine Nat.lt_of_le_of_lt h1 ?_
 refine Nat.lt_of_le_of_lt (Nat.mul_le_mul_right _ hl) ?_
 rw [show (2700 : Nat) = 100 + 2600 from rfl, Nat.pow_add]
 exact Nat.mul_lt_mul_of_pos_right (by decide) (Nat.two_pow_pos _)
def ZhU (CT : Addr) : Sp := fun vs H Q E => ∃ (x : V) (d : Addr) (kvs : List (Key × V)), vs = [x, .ref d] ∧ Rd H d (.dK kvs) ∧ ∀ g H', H g = none → Same H H' → H' g = some (.lst (kvs.map fun kv => kV kv.1)) → Ze1 CT [x, .ref d, .ref g] H' Q E
def ZgW (CT : Addr) : Sp := fun vs H Q _ => ∃ (x : V) (d sd : Addr) (rs : List (Nat × Rat)) (o : Obj) (kvs svs : List (Key × V)) (ss : List Str) (hf : Str → Nat) (B : Nat) (a : Str → Int) (cs : Nat → Int), vs = [x, .ref d, .ref sd] ∧ Jd H CT x d sd rs o kvs svs ss hf B a cs ∧ ∀ H', Same H H' → Q .non H'
def ZfM (pt CT : Addr) : Sp := fun vs H Q _ => ∃ (x : V) (d sd : Addr) (rs : List (Nat × Rat)) (o : Obj) (kvs svs : List (Key × V)) (ss : List Str) (hf : Str → Nat) (B : Nat) (a : Str → Int) (cs : Nat → Int), vs = [x, .ref d, .ref sd] ∧ Jd H CT x d sd rs o kvs svs ss hf B a cs ∧ ZfX H pt "far_roads_first.<locals>.<lambda>" ∧
 (∀ (fr : List Nat) (pay : Nat → Str → Int), (∀ k, k ∈ fr ↔ Zcs rs (ss.map hf) k) → fr.Nodup → PayOk rs hf ss cs fr pay → (∀ z ∈ ss, a z = sm fr (fun k => pay k z)) → False) ∧
 ∀ r H' g (G : List Str), H g = none → Same H H' → H' r = some (.tup [.str (Str.ofString "refused"), .ref g]) → H' g = some (.lst (G.map V.str)) → G.Pairwise leS → G.Nodup → (∀ z ∈ G, z ∈ ss) → ZiL rs hf cs a G → Q (.ref r) H'
section
variable {P : Program} {w : World} {K : PySem.W.Frag} {mg : Str → Option Value} {base : Heap} {f pt : Addr} {fd : FuncData} {CT CNP : Addr}
theorem ok_lookS (F : Fun K "look_sharing" "look_sharing" ZaZ f fd) (n_set : mg "set" = none) (n_list : mg "list" = none) (F_total_of : Fn P w K mg base CX0 4 "total_of" ["some"] (Zdr K)) (F_cost_of_all : Fn P w K mg base CX0 6 "cost_of_all" ["tree", "homes"] (ZhU CT)) : FnOk P w K mg base CX0 7 f fd ["tree", "homes", "sharing"] (ZgW CT) := by
 refine okQ F Zee (fun vs H Q E h => ?_) (fun cdv A outer s H vs Q E hr h => ?_)
 ·obtain ⟨x, d, sd, rs, o, kvs, svs, ss, hf, B, a, cs, rfl, _⟩ := h; rfl
 obtain ⟨x, d, sd, rs, o, kvs, svs, ss, hf, B, a, cs, rfl, J, q⟩ := h
 refine ⟨_, (Zac (Zc0 (t_setNe (Nat.lt_of_succ_lt (ZbL hr)) rfl n_set (a_c (q_v 2) Zab) (a_c (q_v 1) Zab)) (Zai ZbR) Zbs)
   (Zai (Zc0 (t_neD hr (ZaY F_total_of hr (by decide) rfl (a_c (Zhq rfl n_list (q_v 2)) Zab)) (ZaY F_cost_of_all hr (by decide) rfl (a_c (q_v 0) (a_c (q_v 1) Zab)))) (Zai ZbR) Zbs))), ?_⟩
 rw [show Zav ["tree", "homes", "sharing"] [x, .ref d, .ref sd] = [some (x), some (.ref d), some (.ref sd)] from rfl]
 refine ZaR fun R0 hR0 => ?_
 refine ZcK fun A0 hA0 C0 hC0 => ?_
 simp only [Zix, tB]
 walk_at "rd"
 have hsk := J.shv.keys
 refine ⟨svs, J.share, by rw [J.shv.1]; have := J.few; omega, kvs, .inr ⟨o, J.home⟩, by rw [J.kl]; have := J.few; omega, fun r hr => ?_⟩
 have hrt : r = true := hr.mpr ⟨by rw [J.kl]; exact J.shv.1, fun k hk => by rw [J.keys]; rw [hsk] at hk; exact hk⟩
 rw [hrt, if_neg (by decide)]
 subst hC0
 walk_at "rd"
 subst hR0
 try dsimp only
 refine ZcK fun A0 hA0 C0 hC0 => ?_
 walk_at "rd"
 simp only [tListV]
 walk_at "rd"
 refine ⟨svs, J.share, fun l H1 hl s1 e1 => ?_⟩
 have hRv : RatsV H1 (svs.map (·.2)) ((ss.map a).map (ZaG B)) := ⟨by simp [J.shv.1], fun i v t h1 h2 => by
  rw [List.getElem?_map] at h1
  rw [List.map_map, List.getElem?_map] at h2
  obtain ⟨z, hz, rfl⟩ := Option.map_eq_some_iff.mp h2
  obtain ⟨v', e', r'⟩ := J.shv.2 i z hz
  rw [e'] at h1
  cases h1
  exact r'.same s1⟩
 refine ⟨l, svs.map (·.2), _, rfl, .of e1, hRv, Zfr J.b0 J.b1 (fun m hm => ?_), by simp; have := J.few; omega, fun r1 H2 s2 v1 => ?_⟩
 ·obtain ⟨z, hz, rfl⟩ := List.mem_map.mp hm
  exact Nat.lt_of_lt_of_le (J.az z hz) (Nat.pow_le_pow_right (by decide) (by decide))
 rw [ZeY J.b0] at v1
 have s12 := s1.trans s2
 refine ⟨x, d, kvs, rfl, .inr ⟨o, s12 _ _ J.home⟩, fun g H3 hg s3 e3 => ?_⟩
 rw [J.kv] at e3
 have s13 := s12.trans s3
 refine ⟨x, rs, d, g, kvs, ss, ss.map hf, rfl, J.tree.same s13, .inr ⟨o, s13 _ _ J.home⟩, e3, J.hat ss fun _ hz => hz, J.rl, by have := J.few; omega, J.ok, J.sz, fun r2 H4 ks s4 hpw hmem v2 _ => ?_⟩
 have hkn : ks.Nodup := hpw.imp fun h e => by rw [e] at h; exact Nat.lt_irrefl _ h
 rw [J.price fun k hk => Zba ((hmem k).mp hk), J.tot ks hkn hmem] at v2
 obtain ⟨p1, p2, rfl, rfl, he⟩ := ZiV (v1.same (s3.trans s4)) v2
 refine ⟨true, 1, p1, p2, rfl, rfl, he, by decide, _, rfl, ?_⟩
 rw [if_neg (by decide)]
 subst hC0
 walk_at "rd"
 exact q H4 (s13.trans s4)
end
def amt (rows : List (Str × Int)) (z : Str) : Int := sm rows fun p => if z = p.1 then p.2 else 0
theorem amt_nil (z : Str) : amt [] z = 0 := rfl
theorem ZeA {rows : List (Str × Int)} {i : Nat} {p : Str × Int} (h : rows[i]? = some p) (z : Str) : amt (rows.take (i + 1)) z = amt (rows.take i) z + if z = p.1 then p.2 else 0 := by
 unfold amt
 rw [List.take_add_one, h, ZfE]
 simp [sm]
theorem ZgK {rows : List (Str × Int)} (h : ∀ p ∈ rows, 0 ≤ p.2) (i : Nat) (z : Str) : 0 ≤ amt (rows.take i) z ∧ amt (rows.take i) z ≤ amt rows z := by
 have hn : ∀ l : List (Str × Int), (∀ p ∈ l, 0 ≤ p.2) → 0 ≤ amt l z := fun l hl => ZdG fun p hp => by
  show 0 ≤ if z = p.1 then p.2 else 0
  split
  ·exact hl p hp
  ·exact Int.le_refl _
 have e : amt rows z = amt (rows.take i) z + amt (rows.drop i) z := by
  unfold amt
  rw [← ZfE, List.take_append_drop]
 have h1 := hn (rows.take i) fun p hp => h p (List.mem_of_mem_take hp)
 have h2 := hn (rows.drop i) fun p hp => h p (List.mem_of_mem_drop hp)
 omega
theorem Zf7 : ∀ (ts : List Str) (d : Int) (l : Str → Int), ts.Nodup → 0 ≤ d → (∀ z ∈ ts, 0 ≤ l z) → ∀ z, 0 ≤ amt (ts.zip (Zbb d (ts.map l))) z ∧ (z ∉ ts → amt (ts.zip (Zbb d (ts.map l))) z = 0) ∧ (z ∈ ts → amt (ts.zip (Zbb d (ts.map l))) z ≤ l z)
 | [], _, _, _, _, _, z => ⟨Int.le_refl _, fun _ => rfl, fun h => by cases h⟩
 | y :: ts, d, l, hn, hd, hl, z => by
  rw [List.nodup_cons] at hn
  have h0 := hl y (.head _)
  obtain ⟨h1, h2, h3⟩ := Zf7 ts (d - min (l y) d) l hn.2 (by omega) (fun x hx => hl x (.tail _ hx)) z
  rw [List.map_cons, Zbb, List.zip_cons_cons]
  unfold amt at h1 h2 h3 ⊢
  rw [ZaA]
  dsimp only
  by_cases c : z = y
  ·subst c
   rw [if_pos rfl, h2 hn.1]
   exact ⟨by omega, fun h => absurd (List.mem_cons_self ..) h, fun _ => by omega⟩
  ·rw [if_neg c]
   refine ⟨by omega, fun h => ?_, fun h => ?_⟩
   ·rw [h2 fun hm => h (.tail _ hm)]; rfl
   ·have := h3 (by rcases List.mem_cons.mp h with h | h; exact absurd h c; exact h)
    omega
def Zax (ts : List Str) (d : Int) (l : Str → Int) : List (Str × Int) := (ts.zip (Zbb d (ts.map l))).filter fun p => decide (0 < p.2)
theorem ZhM {ts : List Str} {d : Int} {l : Str → Int} (hd : 0 ≤ d) (hl : ∀ z ∈ ts, 0 ≤ l z) : ∀ p ∈ ts.zip (Zbb d (ts.map l)), 0 ≤ p.2 := fun p hp => by
 obtain ⟨i, hi, e⟩ := List.getElem_of_mem hp
 rw [List.getElem_zip] at e
 have hi1 : i < ts.length := by rw [List.length_zip] at hi; omega
 have hi2 : i < (Zbb d (ts.map l)).length := by rw [List.length_zip] at hi; omega
 have := (Ze3 d (ts.map l) hd (fun x hx => by obtain ⟨z, hz, rfl⟩ := List.mem_map.mp hx; exact hl z hz)).1 i (l ts[i]) (Zbb d (ts.map l))[i] (by rw [List.getElem?_map, List.getElem?_eq_getElem hi1]; rfl) (List.getElem?_eq_getElem hi2)
 rw [← e]
 exact this.1
theorem Zdq {ts : List Str} {d : Int} {l : Str → Int} (hd : 0 ≤ d) (hl : ∀ z ∈ ts, 0 ≤ l z) (z : Str) : amt (Zax ts d l) z = amt (ts.zip (Zbb d (ts.map l))) z := by
 unfold amt Zax
 rw [Zbg]
 refine ZbN fun p hp => ?_
 have := ZhM hd hl p hp
 by_cases c : 0 < p.2
 ·rw [if_pos (decide_eq_true c)]
 ·rw [if_neg (by simpa using c)]
  split
  ·omega
  ·rfl
theorem Zlu {ss ts : List Str} {d : Int} {l : Str → Int} (hn : ss.Nodup) (hs : ∀ z ∈ ts, z ∈ ss) (hd : 0 ≤ d) (hl : ∀ z ∈ ts, 0 ≤ l z) (hge : d ≤ sm ts l) : sm ss (amt (Zax ts d l)) = d := by
 rw [ZbN fun z _ => Zdq hd hl z]
 unfold amt
 rw [ZfZ]
 have e : sm (ts.zip (Zbb d (ts.map l))) (fun y => sm ss fun x => if x = y.1 then y.2 else 0) = sm (ts.zip (Zbb d (ts.map l))) (fun p => p.2) := ZbN fun p hp => by
  have hp1 : p.1 ∈ ss := hs _ (List.of_mem_zip hp).1
  exact Zc6 hn hp1 fun _ => p.2
 rw [e]
 have e2 : sm (ts.zip (Zbb d (ts.map l))) (fun p => p.2) = (Zbb d (ts.map l)).sum := by
  unfold sm
  rw [show (ts.zip (Zbb d (ts.map l))).map (fun p => p.2) = (ts.zip (Zbb d (ts.map l))).map Prod.snd from rfl, List.map_snd_zip (by rw [Zfp, List.length_map]; exact Nat.le_refl _)]
 rw [e2]
 exact (Ze3 d (ts.map l) hd fun x hx => by obtain ⟨z, hz, rfl⟩ := List.mem_map.mp hx; exact hl z hz).2 hge
theorem ZgU {ts : List Str} {d : Int} {l : Str → Int} {p : Str × Int} (h : p ∈ Zax ts d l) : p.1 ∈ ts ∧ 0 < p.2 := by
 obtain ⟨h1, h2⟩ := List.mem_filter.mp h
 exact ⟨(List.of_mem_zip h1).1, by simpa using h2⟩
theorem ZkN {rs : List (Nat × Rat)} {hf : Str → Nat} {ss ts : List Str} {cs : Nat → Int} {a : Str → Int} {fr : List Nat} {i r : Nat} {pay : Nat → Str → Int} (hn : ss.Nodup) (hfn : fr.Nodup) (hr : fr[i]? = some r) (hc : ∀ k, 0 ≤ cs k) (hP : PayOk rs hf ss cs (fr.take i) pay)
  (hU : ts.Perm (ss.filter fun z => decide (r ∈ wayL rs (hf z)))) (hl : ∀ z ∈ ss, 0 ≤ a z - sm fr (fun k => pay k z)) (hge : cs r ≤ sm ts fun z => a z - sm fr (fun k => pay k z)) :
  ∃ pay', PayOk rs hf ss cs (fr.take (i + 1)) pay' ∧ ∀ z, a z - sm fr (fun k => pay' k z) = (a z - sm fr (fun k => pay k z)) - amt (Zax ts (cs r) fun z => a z - sm fr (fun k => pay k z)) z := by
 have hts : ∀ z ∈ ts, z ∈ ss ∧ r ∈ wayL rs (hf z) := fun z hz => by have := List.mem_filter.mp (hU.mem_iff.mp hz); simpa using this
 have hlt : ∀ z ∈ ts, 0 ≤ a z - sm fr (fun k => pay k z) := fun z hz => hl z (hts z hz).1
 have htn : ts.Nodup := hU.symm.nodup (hn.filter _)
 have hrD : r ∉ fr.take i := fun c => by
  have h1 : (fr.take (i + 1)).Nodup := hfn.sublist (List.take_sublist _ _)
  rw [List.take_add_one, hr] at h1
  exact (List.nodup_append.mp h1).2.2 r c r (by simp) rfl
 have h0 : ∀ z, pay r z = 0 := fun z => by
  by_cases h : pay r z = 0
  ·exact h
  ·exact absurd (hP.on r z h).1 hrD
 have hz := Zf7 ts (cs r) (fun z => a z - sm fr (fun k => pay k z)) htn (hc r) hlt
 have tk : ∀ k, k ∈ fr.take (i + 1) ↔ k ∈ fr.take i ∨ k = r := fun k => by rw [List.take_add_one, hr, List.mem_append]; simp
 refine ⟨fun k z => if k = r then amt (Zax ts (cs r) fun z => a z - sm fr (fun k => pay k z)) z else pay k z, ⟨fun k z => ?_, fun k z h => ?_, fun k hk => ?_⟩, fun z => ?_⟩
 ·show 0 ≤ if k = r then _ else _
  split
  ·rw [Zdq (hc r) hlt]; exact (hz z).1
  ·exact hP.nn k z
 ·by_cases c : k = r
  ·have h : amt (Zax ts (cs r) fun z => a z - sm fr (fun k => pay k z)) z ≠ 0 := by simpa [c] using h
   rw [Zdq (hc r) hlt] at h
   have hzt : z ∈ ts := Classical.byContradiction fun hn => h ((hz z).2.1 hn)
   exact ⟨(tk k).mpr (.inr c), (hts z hzt).1, c ▸ (hts z hzt).2⟩
  ·have h : pay k z ≠ 0 := by simpa [c] using h
   obtain ⟨h1, h2, h3⟩ := hP.on k z h
   exact ⟨(tk k).mpr (.inl h1), h2, h3⟩
 ·by_cases c : k = r
  ·subst c
   simp only [if_true]
   exact Zlu hn (fun z hz => (hts z hz).1) (hc k) hlt hge
  ·simp only [if_neg c]
   exact hP.full k (((tk k).mp hk).resolve_right c)
 ·have hrf : r ∈ fr := List.mem_of_getElem? hr
  have e : sm fr (fun k => if k = r then amt (Zax ts (cs r) fun z => a z - sm fr (fun k => pay k z)) z else pay k z) = sm fr (fun k => pay k z) + sm fr (fun k => if k = r then amt (Zax ts (cs r) fun z => a z - sm fr (fun k => pay k z)) z else 0) := by
   rw [← ZfC]
   refine ZbN fun k _ => ?_
   by_cases c : k = r
   ·rw [if_pos c, if_pos c, c, h0]; omega
   ·rw [if_neg c, if_neg c]; omega
  show a z - sm fr (fun k => if k = r then _ else _) = _
  rw [e, Zc6 hfn hrf fun _ => amt (Zax ts (cs r) fun z => a z - sm fr (fun k => pay k z)) z]
  omega
theorem pay_end {rs : List (Nat × Rat)} {hf : Str → Nat} {ss : List Str} {cs : Nat → Int} {a : Str → Int} {fr : List Nat} {pay : Nat → Str → Int} (hP : PayOk rs hf ss cs fr pay) (hl : ∀ z ∈ ss, 0 ≤ a z - sm fr (fun k => pay k z)) (ht : sm fr cs = sm ss a) : ∀ z ∈ ss, a z = sm fr (fun k => pay k z) := fun z hz => by
 have h1 := ZdO hl hz
 rw [Zhb, ZfZ, ← ht, ZbN (f := fun y => sm ss (pay y)) (g := cs) fun k hk => hP.full k hk] at h1
 have h2 := hl z hz
 omega
theorem neg_ok {rs : List (Nat × Rat)} {hf : Str → Nat} {ss G : List Str} {cs : Nat → Int} {a : Str → Int} {z : Str} (hO : ∀ z ∈ ss, WayR rs (hf z) (wayL rs (hf z))) (hn : ss.Nodup) (hc : ∀ k, 0 ≤ cs k) (htot : ∀ ks : List Nat, ks.Nodup → (∀ k, k ∈ ks ↔ Zcs rs (ss.map hf) k) → sm ks cs = sm ss a)
  (hz : z ∈ ss) (ha : a z < 0) (hG : G.Perm (ss.filter fun y => !decide (y ∈ [z]))) : ZiL rs hf cs a G := by
 classical
 intro acc han ham
 have hnr : (List.range' 1 rs.length).Nodup := (List.pairwise_lt_range' (s := 1) (n := rs.length)).imp fun h e => by rw [e] at h; exact Nat.lt_irrefl _ h
 have hGm : ∀ y ∈ G, y ∈ ss := fun y hy => (List.mem_filter.mp (hG.mem_iff.mp hy)).1
 have hks := htot ((List.range' 1 rs.length).filter fun k => decide (Zcs rs (ss.map hf) k)) (hnr.filter _) fun k => by
  rw [List.mem_filter, List.mem_range'_1, decide_eq_true_eq]
  exact ⟨fun h => h.2, fun h => ⟨⟨(Zba h).1, by have := (Zba h).2; omega⟩, h⟩⟩
 have key := ZiM (cs := cs) (g := fun _ => 0) han (hnr.filter fun k => decide (Zcs rs (ss.map hf) k)) (fun k hk => ?_) (fun k _ _ => by have := hc k; omega) fun _ _ => rfl
 ·rw [hks, ZcE (f := fun _ => 0) fun _ _ => rfl] at key
  have e1 : sm ss a = sm (ss.filter fun y => decide (y ∈ [z])) a + sm (ss.filter fun y => !decide (y ∈ [z])) a := ZgD ss (fun y => decide (y ∈ [z])) a
  have e2 : sm (ss.filter fun y => decide (y ∈ [z])) a = a z := by
   rw [Zbg]
   have : (fun x => if decide (x ∈ [z]) = true then a x else 0) = fun x => if x = z then a x else 0 := by
    funext x
    simp
   rw [this]
   exact Zc6 hn hz a
  rw [Zda hG]
  omega
 ·obtain ⟨y, hy, hky⟩ := (ZbP fun z hz => hO z (hGm z hz)).mp ((ham k).mp hk)
  have hN : Zcs rs (ss.map hf) k := (ZbP hO).mpr ⟨y, hGm y hy, hky⟩
  rw [List.mem_filter, List.mem_range'_1, decide_eq_true_eq]
  exact ⟨⟨(Zba hN).1, by have := (Zba hN).2; omega⟩, hN⟩
def Pj1 (H0 : Hp) (x : V) (d sd : Addr) (a : Str → Int) (ts : List Str) (i : Nat) (σ : St) (H : Hp) : Prop := ∃ o : Option V, σ = [some x, some (.ref d), some (.ref sd), o, none, none, none, none, none] ∧ Same H0 H ∧ ∀ z ∈ ts.take i, 0 ≤ a z
def Zan (a : Str → Int) (fr : List Nat) (pay : Nat → Str → Int) (z : Str) : Int := a z - sm fr (fun k => pay k z)
def Pj2 (H0 : Hp) (x : V) (d sd lv tb : Addr) (rs : List (Nat × Rat)) (ss : List Str) (hf : Str → Nat) (B : Nat) (a : Str → Int) (cs : Nat → Int) (fp : Addr) (fr : List Nat) (i : Nat) (σ : St) (H : Hp) : Prop := ∃ (o3 o6 o7 o8 : Option V) (lvs : List (Key × V)) (tvs : List V) (pay : Nat → Str → Int),
 σ = [some x, some (.ref d), some (.ref sd), o3, some (.ref lv), some (.ref tb), o6, o7, o8] ∧ Same H0 H ∧ H fp = some (.lst (Zbf fr)) ∧ H lv = some (.dK lvs) ∧ H tb = some (.lst tvs) ∧ tvs.length ≤ 12 * i ∧ ShV H lvs ss (fun z => ZaG B (Zan a fr pay z)) ∧ PayOk rs hf ss cs (fr.take i) pay ∧ ∀ z ∈ ss, 0 ≤ Zan a fr pay z
def Pj3 (H0 : Hp) (x : V) (d sd lv tb : Addr) (ss : List Str) (B : Nat) (l : Str → Int) (fp pp rp : Addr) (fr : List Nat) (v6 : V) (xs : List V) (rows : List (Str × Int)) (m : Nat) (j : Nat) (σ : St) (H : Hp) : Prop := ∃ (o3 o8 : Option V) (lvs : List (Key × V)) (tvs : List V),
 σ = [some x, some (.ref d), some (.ref sd), o3, some (.ref lv), some (.ref tb), some v6, some (.ref pp), o8] ∧ Same H0 H ∧ H fp = some (.lst (Zbf fr)) ∧ H lv = some (.dK lvs) ∧ H tb = some (.lst tvs) ∧ tvs.length ≤ m + j ∧ H rp = some (.lst xs) ∧ RowsP B H xs rows ∧ ShV H lvs ss (fun z => ZaG B (l z - amt (rows.take j) z))
section
variable {P : Program} {w : World} {K : PySem.W.Frag} {mg : Str → Option Value} {base : Heap} {f pt : Addr} {fd : FuncData} {CT CNP : Addr}
theorem Zjg (F : Fun K "judged" "judged" Zco f fd) (n_sorted : mg "sorted" = none) (n_dict : mg "dict" = none) (F_look_sharing : Fn P w K mg base CX0 7 "look_sharing" ["tree", "homes", "sharing"] (ZgW CT)) (F_others : Fn P w K mg base CX0 1 "others" ["homes", "names"] Zfl) (F_far_roads_first : Fn P w K mg base CX0 8 "far_roads_first" ["tree", "homes"] (sp_far pt CT))
  (F_users : Fn P w K mg base CX0 5 "users" ["tree", "homes", "k"] (fun vs H Q _ => ZgF CT CNP vs H Q E0)) (F_is_less : Fn P w K mg base CX0 1 "is_less" ["one", "other"] Zf8) (F_total_of : Fn P w K mg base CX0 4 "total_of" ["some"] (Zdr K)) (M_price : Mth P w K mg base CX0 4 CT "price" ["self", "k"] (fun vs H Q _ => ZdV CT CNP vs H Q E0))
  (F_payments : Fn P w K mg base CX0 4 "payments" ["price", "payers", "left"] Zjb) (F_rest_of : Fn P w K mg base CX0 3 "rest_of" ["one", "other"] Zcp) : FnOk P w K mg base CX0 9 f fd ["tree", "homes", "sharing"] (ZfM pt CT) := by
 refine okQ F sc_judged (fun vs H Q E h => ?_) (fun cdv A outer s H vs Q E hr h => ?_)
 ·obtain ⟨x, d, sd, rs, o, kvs, svs, ss, hf, B, a, cs, rfl, _⟩ := h; rfl
 obtain ⟨x, d, sd, rs, o, kvs, svs, ss, hf, B, a, cs, rfl, J, hTb, hbad, q⟩ := h
 refine ⟨_, (Zac (Zbt (ZaY F_look_sharing hr (by decide) rfl (a_c (q_v 0) (a_c (q_v 1) (a_c (q_v 2) Zab)))))
   (Zac (ZbQ PassesOwn.never (Zbm (q_sortD rfl n_sorted (a_c (q_v 1) Zab))) (Zar 3 sc_judged.nd) (Zai (Zc0 (t_lt (ZaJ (ZbZ (ZbL hr) (q_v 2) (q_v 3)) Zad) Zad) (Zai (Zay (ZcH (a_c Zfq (a_c (ZaY F_others hr (by decide) rfl (a_c (q_v 1) (a_c (Zdc (a_c (q_v 3) Zab)) Zab))) Zab))))) Zbs)))
   (Zac (Zap 4 sc_judged.nd (Zj4 rfl n_dict (a_c (q_v 2) Zab)))
   (Zac (Zap 5 sc_judged.nd (Zdc Zab))
   (Zac (ZbQ PassesOwn.never (Zbm (ZaY F_far_roads_first hr (by decide) rfl (a_c (q_v 0) (a_c (q_v 1) Zab)))) (Zar 6 sc_judged.nd) (Zac (Zap 7 sc_judged.nd (ZaY F_users hr (by decide) rfl (a_c (q_v 0) (a_c (q_v 1) (a_c (q_v 6) Zab)))))
   (Zac (Zc0 (Zcb (ZaY F_is_less hr (by decide) rfl (a_c (ZaY F_total_of hr (by decide) rfl (a_c (Zen (Zji ["name"] [4] ["left"]) (Zbm (q_v 7)) (by exact fun s H fp => (Zar 0 (show List.Nodup (["name", "left"] : List Str) from by decide +kernel))) (by exact fun s H fp => (ZbZ (ZbL hr) (q_v 1) (q_v 0)))) Zab)) (a_c (Zcv M_price hr (by decide) (q_v 0) (a_c (q_v 6) Zab)) Zab)))) (Zai (Zay (ZcH (a_c Zfq (a_c (ZaY F_others hr (by decide) rfl (a_c (q_v 1) (a_c (q_v 7) Zab))) Zab))))) Zbs)
   (Zai (ZbQ PassesOwn.never (Zbm (ZaY F_payments hr (by decide) rfl (a_c (Zcv M_price hr (by decide) (q_v 0) (a_c (q_v 6) Zab)) (a_c (q_v 7) (a_c (q_v 4) Zab))))) (Zhh (n := 2) (Zbq (Zar 3 sc_judged.nd) (Zbq (Zar 8 sc_judged.nd) Zew))) (Zac (Zd9 (ZbL hr) (q_v 4) (q_v 3) (ZaY F_rest_of hr (by decide) rfl (a_c (ZbZ (ZbL hr) (q_v 4) (q_v 3)) (a_c (q_v 8) Zab))))
   (Zai (Zbt (ZeM (q_v 5) (a_c (ZcH (a_c (q_v 6) (a_c (q_v 3) (a_c (q_v 8) Zab)))) Zab))))))))))
   (Zai (Zay (ZcH (a_c Zfq (a_c (ZcO rfl n_sorted (a_c (q_v 5) Zab)) Zab)))))))))), ?_⟩
 rw [show Zav ["tree", "homes", "sharing", "name", "left", "table", "road", "payers", "amount"] [x, .ref d, .ref sd] = [some (x), some (.ref d), some (.ref sd), none, none, none, none, none, none] from rfl]
 have hO := J.way
 have hfew := J.few
 refine ZaR fun R0 hR0 => ?_
 walk_at "rd"
 refine ⟨x, d, sd, rs, o, kvs, svs, ss, hf, B, a, cs, rfl, J, fun H1 s1 => ?_⟩
 subst hR0
 try dsimp only
 refine ZaR fun R0 hR0 => ?_
 rw [Za6]
 walk_at "rd"
 refine ⟨kvs, .inr ⟨o, s1 _ _ J.home⟩, ss, J.kv, by omega, fun l H2 ts hl s2 e2 hso hpe => ?_⟩
 have s12 := s1.trans s2
 refine Zbl (xs := ts.map V.str) (fun i σ H' => Pj1 H x d sd a ts i σ H' ∧ H' l = some (.lst (ts.map V.str))) ⟨⟨_, rfl, s12, fun z hz => by simp at hz⟩, e2⟩ (fun i σ H' _ hP => ?_) (fun i y σ H' hi hP => ?_) (fun σ H' hP => ?_)
 ·exact .of hP.2
 ·obtain ⟨⟨o3, rfl, sm', hnn⟩, el⟩ := hP
  rw [List.getElem?_map] at hi
  obtain ⟨z, hz, rfl⟩ := Option.map_eq_some_iff.mp hi
  have hzs : z ∈ ss := hpe.mem_iff.mp (List.mem_of_getElem? hz)
  have J' := J.same sm'
  obtain ⟨v, ev, rv⟩ := J'.shv.val J.nd z hzs
  obtain ⟨pv, rfl, hpv⟩ := id rv
  walk_at "rd"
  refine ⟨svs, J'.share, .inr z, rfl, _, ev, pv, rfl, _, hpv, _, rfl, _, rfl, ?_⟩
  by_cases c0 : a z < 0
  ·rw [if_pos ((ZgH J.b0 _).mpr c0)]
   intro gl H3 hgl s3 e3
   have s03 := sm'.trans s3
   refine ⟨d, gl, o, kvs, ss, [z], rfl, s03 _ _ J.home, J.kv, by omega, e3, fun p H4 G hp s4 e4 hGw hGp => fun r H5 hr5 s5 e5 => ?_⟩
   have hGm : ∀ y ∈ G, y ∈ ss := fun y hy => (List.mem_filter.mp (hGp.mem_iff.mp hy)).1
   exact q r H5 p G (s03.free hp) (s03.trans (s4.trans s5)) e5 (s5 _ _ e4) hGw (hGp.symm.nodup (J.nd.filter _)) hGm (neg_ok hO J.nd J.c0 J.tot hzs c0 hGp)
  ·rw [if_neg (fun c => c0 ((ZgH J.b0 _).mp c))]
   refine ⟨⟨_, rfl, sm', fun y hy => ?_⟩, el⟩
   rw [List.take_add_one, hz, List.mem_append] at hy
   rcases hy with hy | hy
   ·exact hnn y hy
   ·have : y = z := by simpa using hy
    rw [this]; omega
 ·obtain ⟨⟨o3, rfl, sm', hnn⟩, el⟩ := hP
  have hnn' : ∀ z ∈ ss, 0 ≤ a z := fun z hz => hnn z (by rw [List.length_map, List.take_length]; exact hpe.mem_iff.mpr hz)
  subst hR0
  try dsimp only
  have J' := J.same sm'
  walk_at "rd"
  refine ⟨sd, svs, rfl, J'.share, fun lv H3 hlv s3 e3 tb H4 htb s4 e4 => ?_⟩
  have s04 := sm'.trans (s3.trans s4)
  have hne : lv ≠ tb := Zaj e3 htb
  have hlv0 : H lv = none := sm'.free hlv
  have htb0 : H tb = none := (sm'.trans s3).free htb
  rw [Za6]
  walk_at "rd"
  refine ⟨x, rs, d, kvs, ss, hf, rfl, J.tree.same s04, .inr ⟨o, s04 _ _ J.home⟩, J.kv, J.hat, J.rl, by omega, J.ok, let ⟨t, ht⟩ := hTb; ⟨t, s04 _ _ ht⟩, fun fp H5 fr hfp s5 e5 hfn hfm hfw => ?_⟩
  have s05 := s04.trans s5
  have htot := J.tot fr hfn hfm
  have hbd : ∀ k ∈ fr, 1 ≤ k ∧ k ≤ rs.length := fun k hk => Zba ((hfm k).mp hk)
  have hfl : fr.length ≤ 20 := Nat.le_trans (Zci hfn hbd) J.rl
  have hp0 : PayOk rs hf ss cs (fr.take 0) (fun _ _ => 0) := ⟨fun _ _ => Int.le_refl _, fun k z h => absurd rfl h, fun k hk => by simp at hk⟩
  have hl0 : ∀ z, Zan a fr (fun _ _ => 0) z = a z := fun z => by unfold Zan; rw [ZcE fun _ _ => rfl]; omega
  refine Zbl (xs := Zbf fr) (Pj2 H x d sd lv tb rs ss hf B a cs fp fr) ⟨_, _, _, _, svs, [], fun _ _ => 0, rfl, s05, e5, (s4.trans s5) _ _ e3, s5 _ _ e4, by simp, ?_, hp0, fun z hz => by rw [hl0]; exact hnn' z hz⟩ (fun i σ H' _ hP => ?_) (fun i y σ H6 hi hP => ?_) (fun σ H6 hP => ?_)
  ·have e : (fun z => ZaG B (Zan a fr (fun _ _ => 0) z)) = fun z => ZaG B (a z) := funext fun z => by rw [hl0]
   rw [e]
   exact J.shv.keep fun b ys e => s05 _ _ e
  ·obtain ⟨_, _, _, _, _, _, _, _, _, e', _⟩ := hP
   exact .of e'
  ·obtain ⟨o3, o6, o7, o8, lvs, tvs, pay, rfl, s6, ef6, el6, et6, htl6, hS6, hP6, hL6⟩ := hP
   have hil : i < fr.length := by have := (List.getElem?_eq_some_iff.mp hi).1; simpa [Zbf] using this
   have hri := List.getElem?_eq_getElem hil
   have hy : y = V.int (fr[i] : Int) := by
    unfold Zbf at hi
    rw [List.getElem?_map, hri] at hi
    cases hi
    rfl
   subst hy
   obtain ⟨b1, b2⟩ := hbd _ (List.getElem_mem hil)
   have J6 := J.same s6
   have hin : inR rs ((fr[i] : Nat) : Int) := ⟨by omega, by omega⟩
   refine ZaR fun R0 hR0 => ?_
   walk_at "rd"
   refine ⟨x, rs, d, _, rfl, J6.tree, by have := J.rl; omega, fun k' ek _ => ⟨o, kvs, ss, hf, J6.home, Vil.of J.kv (by omega) J.hat, fun pp H7 ts7 hpp s7 e7 hpw7 hpm7 => ?_⟩, fun hno => absurd hin hno⟩
   have ek' : k' = fr[i] := by omega
   subst ek'
   have hts : ∀ z ∈ ts7, z ∈ ss := fun z hz => (List.mem_filter.mp (hpm7.mem_iff.mp hz)).1
   have htl7 : ts7.length ≤ 12 := Nat.le_trans (Nat.le_trans (Nat.le_of_eq hpm7.length_eq) (List.length_filter_le _ _)) hfew
   have s07 := s6.trans s7
   have J7 := J.same s07
   have el7 := s7 _ _ el6
   have hS7 := hS6.keep fun b ys e => s7 _ _ e
   have lsz : ∀ z ∈ ss, (Zan a fr pay z).natAbs < 2 ^ 2600 := fun z hz => by
    have h1 := hL6 z hz
    have h2 := J.az z hz
    have h3 : 0 ≤ sm fr (fun k => pay k z) := ZdG fun k _ => hP6.nn k z
    have h4 := hnn' z hz
    unfold Zan at h1 ⊢
    omega
   subst hR0
   try dsimp only
   refine ZaR fun R0 hR0 => ?_
   refine ZcK fun A0 hA0 C0 hC0 => ?_
   walk_at "rd"
   simp only [Zc8, Zeh, cxK]
   walk_at "rd"
   refine ⟨⟨_, .of e7⟩, ?_⟩
   rw [show ZbK [some x, some (V.ref d), some (V.ref sd), o3, some (V.ref lv), some (V.ref tb), some (V.int (fr[i] : Int)), some (V.ref pp), o8] [4] = [some (V.ref lv)] from rfl]
   refine Zgy RatV ZdJ (xs := ts7.map V.str) (as := (ts7.map (Zan a fr pay)).map (ZaG B)) e7 (by simp) (by rw [List.length_map]; omega) (fun i' y t' hi' ht' H' kk os sm'' ol hkk => ?_) (fun pq H8 zs hpq s8 e8 hY => ?_)
   ·obtain ⟨o', rfl⟩ : ∃ o', os = [o'] := by match os, ol with | [o'], _ => exact ⟨o', rfl⟩
    rw [List.getElem?_map] at hi'
    obtain ⟨z, hz', rfl⟩ := Option.map_eq_some_iff.mp hi'
    rw [List.map_map, List.getElem?_map, hz'] at ht'
    cases ht'
    obtain ⟨v, ev, rv⟩ := (hS7.keep fun b ys e => sm'' _ _ e).val J.nd z (hts z (List.mem_of_getElem? hz'))
    walk_at "rd"
    refine ⟨[some (.str z)], rfl, rfl, ?_⟩
    walk_at "rd"
    exact ⟨lvs, .inl (sm'' _ _ el7), .inr z, rfl, _, ev, hkk _ _ (fun _ _ w => w) rv⟩
   have hms : ∀ m ∈ ts7.map (Zan a fr pay), m.natAbs < 2 ^ 2700 := fun m hm => by
    obtain ⟨z, hz, rfl⟩ := List.mem_map.mp hm
    exact Nat.lt_of_lt_of_le (lsz z (hts z hz)) (Nat.pow_le_pow_right (by decide) (by decide))
   refine ⟨pq, zs, _, rfl, .of e8, hY, Zfr J.b0 J.b1 hms, by simp; omega, fun r1 H9 s9 v1 => ?_⟩
   rw [ZeY J.b0] at v1
   replace v1 : RatV H9 r1 (ZaG B (sm ts7 (Zan a fr pay))) := v1
   have s79 := s8.trans s9
   have s09 := s07.trans s79
   have hT9 := J.tree.same s09
   obtain ⟨xa, dx, la, wa, ls, ws, rfl, h1, _⟩ := id hT9
   have hprc : Zah rs fr[i] = ZaG B (cs fr[i]) := J.pr _ b1 b2
   have szc : SzQ 3000 (ZaG B (cs fr[i])) := (Zbo J.b0 J.b1 (J.cz _)).mono (by decide)
   refine ⟨xa, rfl, dx, _, h1, rfl, .ref xa, rs, _, rfl, hT9, fun k' r y ek hr2 hy => ?_, fun zz => absurd hin zz⟩
   have eyp : RatV H9 y (ZaG B (cs fr[i])) := by
    have ek' : fr[i] - 1 = k' := by omega
    have : Zah rs fr[i] = r.2 := by unfold Zah; rw [ek', hr2]; rfl
    rw [← hprc, this]
    exact hy
   have szs : SzQ 3000 (ZaG B (sm ts7 (Zan a fr pay))) := (Zbo (n := 2700) J.b0 (Nat.lt_of_lt_of_le J.b1 (Nat.pow_le_pow_right (by decide) (by decide))) (sm_lt htl7 fun z hz => lsz z (hts z hz))).mono (by decide)
   refine ⟨r1, y, _, _, rfl, v1, eyp, szs, szc, _, rfl, ?_⟩
   by_cases c0 : sm ts7 (Zan a fr pay) < cs fr[i]
   ·rw [if_pos (decide_eq_true ((ZbT J.b0).mpr c0))]
    subst hA0
    walk_at "rd"
    refine ⟨d, pp, o, kvs, ss, ts7, rfl, s09 _ _ J.home, J.kv, by omega, s79 _ _ e7, fun p H10 G hp s10 e10 hGw hGp => fun r' H11 hr11 s11 e11 => ?_⟩
    have hGm : ∀ y ∈ G, y ∈ ss := fun y hy => (List.mem_filter.mp (hGp.mem_iff.mp hy)).1
    have hsp : fr = fr.take i ++ fr[i] :: fr.drop (i + 1) := by rw [← List.drop_eq_getElem_cons hil, List.take_append_drop]
    have hov : ZiL rs hf cs a G := by
     refine ZjC (D := fr.take i) (r := fr[i]) (rest := fr.drop (i + 1)) (pay := pay) hO ?_ ?_ ?_ J.c0 hP6 ?_ hpm7 ?_ hGp
     ·rw [← hsp]; exact hfn
     ·rw [← hsp]; exact hfm
     ·rw [← hsp]; exact hfw
     ·rw [← hsp]; exact htot
     ·rw [← hsp]; exact c0
    exact q r' H11 p G (s09.free hp) (s09.trans (s10.trans s11)) e11 (s11 _ _ e10) hGw (hGp.symm.nodup (J.nd.filter _)) hGm hov
   ·rw [if_neg (by rw [decide_eq_true_eq, ZbT J.b0]; exact c0)]
    subst hC0
    walk_at "rd"
    subst hR0
    try dsimp only
    rw [Za6]
    walk_at "rd"
    refine ⟨dx, _, h1, rfl, .ref xa, rs, _, rfl, hT9, fun k2 r2 y2 ek2 hr22 hy2 => ?_, fun zz => absurd hin zz⟩
    have eyp2 : RatV H9 y2 (ZaG B (cs fr[i])) := by
     have ek' : fr[i] - 1 = k2 := by omega
     have : Zah rs fr[i] = r2.2 := by unfold Zah; rw [ek', hr22]; rfl
     rw [← hprc, this]
     exact hy2
    have hS9 := hS7.keep fun b ys e => s79 _ _ e
    have el9 := s79 _ _ el7
    have et9 := (s7.trans s79) _ _ et6
    have ef9 := (s7.trans s79) _ _ ef6
    refine ⟨y2, pp, lv, lvs, ts7, B, cs fr[i], Zan a fr pay, rfl, eyp2, s79 _ _ e7, .inl el9, fun z hz => hS9.val J.nd z (hts z hz), J.b0, J.b1, J.c0 _, J.cz _, fun z hz => ⟨hL6 z (hts z hz), lsz z (hts z hz)⟩, by omega, fun rp H10 xs10 hrp s10 e10 hR10 => ?_⟩
    have s710 := s79.trans s10
    have s010 := s09.trans s10
    have hlv10 : lv ≠ rp := Zaj el9 hrp
    have htb10 : tb ≠ rp := Zaj et9 hrp
    have hfp10 : fp ≠ lv := ZbI ef9 el9 (by intro z; cases z)
    have hfpt : fp ≠ tb := (Zaj e4 hfp).symm
    have hnr : ∀ p ∈ Zax ts7 (cs fr[i]) (Zan a fr pay), 0 ≤ p.2 := fun p hp => Int.le_of_lt (ZgU hp).2
    have hlt7 : ∀ z ∈ ts7, 0 ≤ Zan a fr pay z := fun z hz => hL6 z (hts z hz)
    have htn : ts7.Nodup := hpm7.symm.nodup (J.nd.filter _)
    have hamt : ∀ z ∈ ss, amt (Zax ts7 (cs fr[i]) (Zan a fr pay)) z ≤ Zan a fr pay z := fun z hz => by
     rw [Zdq (J.c0 _) hlt7]
     have hh := Zf7 ts7 (cs fr[i]) (Zan a fr pay) htn (J.c0 _) hlt7 z
     by_cases c : z ∈ ts7
     ·exact hh.2.2 c
     ·rw [hh.2.1 c]; exact hL6 z hz
    have kpR : Zgp (fun H v (p : Str × Int) => ∃ t r, v = .ref t ∧ H t = some (.tup [.str p.1, r]) ∧ RatV H r (ZaG B p.2)) := fun H H' v p h s => let ⟨t, r, a1, a2, a3⟩ := h; ⟨t, r, a1, s _ _ a2, a3.keep s⟩
    have hrl : (Zax ts7 (cs fr[i]) (Zan a fr pay)).length ≤ 12 := Nat.le_trans (List.length_filter_le _ _) (by rw [List.length_zip]; omega)
    have hxl10 : xs10.length = (Zax ts7 (cs fr[i]) (Zan a fr pay)).length := hR10.1
    refine Zbl (xs := xs10) (Pj3 H (.ref xa) d sd lv tb ss B (Zan a fr pay) fp pp rp fr (.int (fr[i] : Int)) xs10 (Zax ts7 (cs fr[i]) (Zan a fr pay)) (12 * i)) ⟨_, _, lvs, tvs, rfl, s010, s10 _ _ ef9, s10 _ _ el9, s10 _ _ et9, by omega, e10, hR10, ?_⟩ (fun j σ H' _ hP => ?_) (fun j y σ H' hj hP => ?_) (fun σ H' hP => ?_)
    ·have e : (fun z => ZaG B (Zan a fr pay z - amt ((Zax ts7 (cs fr[i]) (Zan a fr pay)).take 0) z)) = fun z => ZaG B (Zan a fr pay z) := funext fun z => by rw [List.take_zero, amt_nil, Int.sub_zero]
     rw [e]
     exact hS9.keep fun b ys e => s10 _ _ e
    ·obtain ⟨_, _, _, _, _, _, _, _, _, _, e', _⟩ := hP
     exact .of e'
    ·obtain ⟨q3, q8, lv2, tv2, rfl, s11, ef11, el11, et11, htl11, er11, hR11, hS11⟩ := hP
     have hjl : j < xs10.length := (List.getElem?_eq_some_iff.mp hj).1
     have hjr : j < (Zax ts7 (cs fr[i]) (Zan a fr pay)).length := by omega
     have hrj := List.getElem?_eq_getElem hjr
     obtain ⟨t, r, rfl, ht, hrv⟩ := hR11.2 j _ _ hj hrj
     obtain ⟨hn1, hn2⟩ := ZgU (List.getElem_mem hjr)
     have hns := hts _ hn1
     obtain ⟨v, ev, rv⟩ := hS11.val J.nd _ hns
     have hpt := ZgK hnr j (Zax ts7 (cs fr[i]) (Zan a fr pay))[j].1
     have hpt2 := ZgK hnr (j + 1) (Zax ts7 (cs fr[i]) (Zan a fr pay))[j].1
     rw [ZeA hrj, if_pos rfl] at hpt2
     have ha1 := hamt _ hns
     have ha2 := lsz _ hns
     have ha3 := hL6 _ hns
     have szv : SzQ 3000 (ZaG B (Zan a fr pay (Zax ts7 (cs fr[i]) (Zan a fr pay))[j].1 - amt ((Zax ts7 (cs fr[i]) (Zan a fr pay)).take j) (Zax ts7 (cs fr[i]) (Zan a fr pay))[j].1)) := (Zbo J.b0 J.b1 (by omega)).mono (by decide)
     have szr : SzQ 3000 (ZaG B (Zax ts7 (cs fr[i]) (Zan a fr pay))[j].2) := (Zbo J.b0 J.b1 (by omega)).mono (by decide)
     walk_at "rd"
     refine ⟨_, ht, rfl, _, _, rfl, _, _, rfl, rfl, lv2, .inl el11, .inr _, rfl, v, ev, v, r, _, _, rfl, rv, hrv, szv, szr, fun r12 H12 s12' v12 => ?_⟩
     rw [Zdp J.b0] at v12
     have el12 := s12' _ _ el11
     have et12 := s12' _ _ et11
     have kp : ∀ b ys v', H12 b = some (.tup ys) → upd H12 lv (.dK (Zbr lv2 (Sum.inr (Zax ts7 (cs fr[i]) (Zan a fr pay))[j].1) v')) b = some (.tup ys) := fun b ys v' e => by rw [Zae (ZbI e el12 (by intro z; cases z))]; exact e
     refine ⟨lv2, el12, .inr _, rfl, by rw [hS11.1]; omega, ⟨tv2, by rw [Zae hne.symm]; exact et12⟩, fun p13 H13 hp13 s13 e13 => ?_⟩
     have et13 : H13 tb = some (.lst tv2) := s13 _ _ (by rw [Zae hne.symm]; exact et12)
     have kp2 : ∀ b ys, H13 b = some (.tup ys) → upd H13 tb (.lst (tv2 ++ [.ref p13])) b = some (.tup ys) := fun b ys e => by rw [Zae (ZbI e et13 (by intro z; cases z))]; exact e
     refine ⟨tv2, et13, by omega, _, _, Zbr lv2 (Sum.inr (Zax ts7 (cs fr[i]) (Zan a fr pay))[j].1) r12, tv2 ++ [.ref p13], rfl, Zam htb0 ((Zam hlv0 (s11.trans s12')).trans s13), ?_, ?_, upd_same, by simp; omega, ?_, ?_, ?_⟩
     ·rw [Zae hfpt]; exact s13 _ _ (by rw [Zae hfp10]; exact s12' _ _ ef11)
     ·rw [Zae hne]; exact s13 _ _ upd_same
     ·rw [Zae htb10.symm]; exact s13 _ _ (by rw [Zae hlv10.symm]; exact s12' _ _ er11)
     ·exact (((hR11.keep kpR fun b ys e => s12' _ _ e).keep kpR fun b ys e => kp b ys _ e).keep kpR fun b ys e => s13 _ _ e).keep kpR kp2
     ·refine ShV.keep (ShV.keep (ShV.put ((hS11.keep fun b ys e => s12' _ _ e).keep fun b ys e => kp b ys _ e) hns ?_ fun y hy => ?_) fun b ys e => s13 _ _ e) kp2
      ·rw [ZeA hrj, if_pos rfl]
       refine RatV.keep ?_ fun b ys e => kp b ys _ e
       rw [show Zan a fr pay (Zax ts7 (cs fr[i]) (Zan a fr pay))[j].1 - (amt ((Zax ts7 (cs fr[i]) (Zan a fr pay)).take j) (Zax ts7 (cs fr[i]) (Zan a fr pay))[j].1 + (Zax ts7 (cs fr[i]) (Zan a fr pay))[j].2) = Zan a fr pay (Zax ts7 (cs fr[i]) (Zan a fr pay))[j].1 - amt ((Zax ts7 (cs fr[i]) (Zan a fr pay)).take j) (Zax ts7 (cs fr[i]) (Zan a fr pay))[j].1 - (Zax ts7 (cs fr[i]) (Zan a fr pay))[j].2 by omega]
       exact v12
      ·rw [ZeA hrj, if_neg hy, Int.add_zero]
    ·obtain ⟨q3, q8, lv2, tv2, rfl, s11, ef11, el11, et11, htl11, er11, hR11, hS11⟩ := hP
     rw [hxl10, List.take_length] at hS11
     obtain ⟨pay', hP', hpe'⟩ := ZkN J.nd hfn hri J.c0 hP6 hpm7 hL6 (by have := c0; unfold Zan at this; omega)
     refine ⟨_, _, _, _, lv2, tv2, pay', rfl, s11, ef11, el11, et11, by omega, ?_, hP', fun z hz => ?_⟩
     ·have e : (fun z => ZaG B (Zan a fr pay' z)) = fun z => ZaG B (Zan a fr pay z - amt (Zax ts7 (cs fr[i]) (Zan a fr pay)) z) := funext fun z => by
       show ZaG B (a z - sm fr (fun k => pay' k z)) = _
       rw [hpe' z]
       rfl
      rw [e]
      exact hS11
     ·show 0 ≤ a z - sm fr (fun k => pay' k z)
      rw [hpe' z]
      have := hamt z hz
      show 0 ≤ Zan a fr pay z - amt (Zax ts7 (cs fr[i]) (Zan a fr pay)) z
      omega
  ·obtain ⟨o3, o6, o7, o8, lvs, tvs, pay, rfl, s6, ef6, el6, et6, htl6, hS6, hP6, hL6⟩ := hP
   have hnl : (Zbf fr).length = fr.length := by simp [Zbf]
   rw [hnl, List.take_length] at hP6
   exact (hbad fr pay hfm hfn hP6 (pay_end hP6 hL6 htot)).elim
end
def ZfJ : Sp := fun vs H Q _ => ∃ (p d : Addr) (c : Int) (xs : List V) (rs : List (Nat × Rat)) (o : Obj) (kvs : List (Key × V)) (ss : List Str) (hf : Str → Nat), vs = [.ref p, .ref d, .int c] ∧ H p = some (.lst xs) ∧ RoadsV H xs rs ∧ H d = some (.frz o (.dK kvs)) ∧ kvs.map (·.1) = ss.map Sum.inr ∧ ss.Nodup ∧ ss.length ≤ 12 ∧ (∀ gs : List Str, (∀ z ∈ gs, z ∈ ss) → Zcl kvs gs (gs.map hf) rs.length) ∧ rs.length ≤ 20 ∧ Zcx rs ∧ (∀ r ∈ rs, SzQ 110 r.2 ∧ 0 ≤ r.2.num) ∧
 ∀ b H' svs qf B, H b = none → Same H H' → H' b = some (.dK svs) → ShV H' svs ss qf → 0 < B → B ≤ 2 ^ 2400 → (∀ z ∈ ss, (qf z).den ∣ B ∧ 0 ≤ qf z) → (∀ r ∈ rs, r.2.den ∣ B) → (∀ ks : List Nat, ks.Nodup → (∀ k, k ∈ ks ↔ Zcs rs (ss.map hf) k) → ZaU (ss.map qf) = ZaU (ks.map (Zah rs))) → Q (.ref b) H'
theorem Zhi {ss : List Str} {qf : Str → Rat} (hn : ss.Nodup) {z : Str} (hz : z ∈ ss) (q : Rat) : ZaU (ss.map fun y => if y = z then qf y + q else qf y) = ZaU (ss.map qf) + q := by
 induction ss with
 | nil => cases hz
 | cons y ss ih =>
  rw [List.nodup_cons] at hn
  rw [List.map_cons, List.map_cons, ZaB, ZaB]
  by_cases c : y = z
  ·subst c
   rw [if_pos rfl, show (ss.map fun x => if x = y then qf x + q else qf x) = ss.map qf from List.map_congr_left fun x hx => if_neg (fun e : x = y => hn.1 (by rw [← e]; exact hx)), Rat.add_assoc, Rat.add_assoc, Rat.add_comm q]
  ·rw [if_neg c, ih hn.2 (by rcases List.mem_cons.mp hz with h | h; exact absurd h.symm c; exact h), Rat.add_assoc]
theorem Zgo {ss : List Str} : ZaU (ss.map fun _ => (0 : Rat)) = 0 := by
 induction ss with
 | nil => rfl
 | cons y ss ih => rw [List.map_cons, ZaB, ih, Rat.add_zero]
theorem den_add {p q : Rat} {B : Nat} (hB : 0 < B) (h1 : p.den ∣ B) (h2 : q.den ∣ B) : (p + q).den ∣ B := by
 rw [← ZdT hB h1, ← ZdT hB h2]
 have := Zdu hB (Zd5 B p + Zd5 B q)
 rw [← Zcq hB] at this
 exact this
theorem den_div {t : Int} {b : Nat} (hb : 0 < b) : (Rat.divInt t (b : Int)).den ∣ b := Zdu hb t
theorem Zlx (ms : List Int) (i : Nat) (m : Int) (h : ms[i]? = some m) : (ms.take (i + 1)).sum = (ms.take i).sum + m := by rw [List.take_add_one, h, List.sum_append]; simp
theorem Zh6 {a : Addr} {o : Obj} {kvs : List (Key × V)} {ss : List Str} {cp : St} {tt : TT} {H1 : Hp} {Q : VK} (r : Str → Bool) (ha : H1 a = some (.frz o (.dK kvs))) (he : (kvs.map fun kv => kV kv.1) = ss.map V.str) (hl : ss.length < 1000) (ht : ∀ z ∈ ss, ∀ H' (k : Bool → Hp → Prop), Same H1 H' → (∀ H'', Same H' H'' → k (r z) H'') → tt (some (V.str z) :: cp) H' k)
  (q : ∀ p H', H1 p = none → Same H1 H' → H' p = some (.lst ((ss.filter r).map V.str)) → Q (.ref p) H') : ZfN 1 cp (Itd a o kvs) (Zcu 0) tt (tVar 0) H1 Q := by
 have hlen : kvs.length = ss.length := by have := congrArg List.length he; simpa using this
 refine Ze5 (fun acc i ys H' => Same H1 H' ∧ H' acc = some (.lst ys) ∧ ys = ((ss.take i).filter r).map V.str ∧ i ≤ ss.length)
  (fun acc H2 hn sm e => ⟨sm, e, by simp, Nat.zero_le _⟩) (fun acc i ys H2 ⟨sm, e, e2, hi⟩ => ⟨e, ?_, sm _ _ ha⟩) (fun acc i kv ys H2 os hn hi hP ol => ?_) (fun acc ys H2 hn hP => ?_)
 ·rw [e2, List.length_map]
  exact Nat.lt_of_le_of_lt (List.length_filter_le _ _) (by rw [List.length_take]; omega)
 ·obtain ⟨sm, e, e2, _⟩ := hP
  obtain ⟨o', rfl⟩ : ∃ o', os = [o'] := by match os, ol with | [o'], _ => exact ⟨o', rfl⟩
  obtain ⟨z, hz, ek⟩ : ∃ z, ss[i]? = some z ∧ kV kv.1 = V.str z := by
   have h1 := congrArg (·[i]?) he
   simp only [List.getElem?_map, hi, Option.map_some] at h1
   cases h : ss[i]? with
   | none => rw [h] at h1; cases h1
   | some z => rw [h] at h1; exact ⟨z, rfl, by simpa using h1⟩
  rw [ek]
  have hil := (List.getElem?_eq_some_iff.mp hz).1
  refine ⟨[some (V.str z)], rfl, rfl, ht z (List.mem_of_getElem? hz) H2 _ sm fun H3 s3 => ?_⟩
  have tk : (ss.take (i + 1)).filter r = (ss.take i).filter r ++ (if r z = true then [z] else []) := by
   rw [List.take_add_one, hz, List.filter_append]
   congr 1
   show [z].filter r = _
   by_cases c : r z = true
   ·rw [List.filter_cons_of_pos c, if_pos c]; rfl
   ·rw [List.filter_cons_of_neg c, if_neg c]; rfl
  refine Ze9 (fun c => ⟨V.str z, rfl, s3 _ _ e, Zam hn (sm.trans s3), upd_same, ?_, hil⟩) (fun c => ⟨sm.trans s3, s3 _ _ e, ?_, hil⟩)
  ·rw [tk, if_pos c, e2, List.map_append]; rfl
  ·rw [tk, if_neg c, List.append_nil, e2]
 ·obtain ⟨sm, e, e2, _⟩ := hP
  rw [hlen, List.take_length] at e2
  subst e2
  exact q acc H2 hn sm e
theorem one_sum (us : List Str) : (us.map fun _ => (1 : Int)).sum = us.length := by
 induction us with
 | nil => rfl
 | cons x us ih => rw [List.map_cons, List.sum_cons, ih, List.length_cons]; omega
def Psh (H0 : Hp) (p d b nb : Addr) (c : Int) (rs : List (Nat × Rat)) (ss : List Str) (hf : Str → Nat) (i : Nat) (σ : St) (H : Hp) : Prop := ∃ (o4 o6 o7 o8 o9 o10 : Option V) (svs : List (Key × V)) (qf : Str → Rat) (B : Nat) (ns : List Int), σ = [some (.ref p), some (.ref d), some (.int c), some (.ref b), o4, some (.ref nb), o6, o7, o8, o9, o10] ∧ Same H0 H ∧ H b = some (.dK svs) ∧ H nb = some (.lst (ns.map V.int)) ∧ (rs.length - i) * ss.length ≤ ns.length ∧ (∀ n ∈ ns, 0 ≤ n ∧ n < 7) ∧
 ShV H svs ss qf ∧ 0 < B ∧ B ≤ 2 ^ (117 * i) ∧ (∀ z ∈ ss, (qf z).den ∣ B ∧ 0 ≤ qf z ∧ SzQ (119 * i + 1) (qf z)) ∧ (∀ (j : Nat) r, j < i → rs[j]? = some r → r.2.den ∣ B) ∧ (∀ ks : List Nat, ks.Nodup → (∀ k, k ∈ ks ↔ (k ≤ i ∧ Zcs rs (ss.map hf) k)) → ZaU (ss.map qf) = ZaU (ks.map (Zah rs)))
def Psz (H0 : Hp) (p d b nb np pp : Addr) (c : Int) (v6 : V) (ss ns : List Str) (ps : List Int) (nums : List Int) (i Tn : Nat) (pr : Rat) (qf : Str → Rat) (B : Nat) (j : Nat) (σ : St) (H : Hp) : Prop := ∃ (o4 o9 o10 : Option V) (svs : List (Key × V)) (qg : Str → Rat), σ = [some (.ref p), some (.ref d), some (.int c), some (.ref b), o4, some (.ref nb), some v6, some (.ref np), some (.ref pp), o9, o10] ∧ Same H0 H ∧ H b = some (.dK svs) ∧ H nb = some (.lst (nums.map V.int)) ∧ H np = some (.lst (ns.map V.str)) ∧ H pp = some (.lst (ps.map V.int)) ∧
 ShV H svs ss qg ∧ (∀ z ∈ ss, (qg z).den ∣ B ∧ 0 ≤ qg z ∧ SzQ (119 * (i + 1) + 1) (qg z) ∧ (z ∉ ns.take j → SzQ (119 * i + 1) (qg z))) ∧ ZaU (ss.map qg) = ZaU (ss.map qf) + Rat.divInt (pr.num * (ps.take j).sum) ((pr.den : Int) * (Tn : Int))
section
variable {P : Program} {w : World} {K : PySem.W.Frag} {mg : Str → Option Value} {base : Heap} {f : Addr} {fd : FuncData}
theorem Zi0 (F : Fun K "_law_shared_by" "_law_shared_by" ZaQ f fd) (n_len : mg "len" = none) (n_range : mg "range" = none) (n_max : mg "max" = none) (n_sum : mg "sum" = none) (n_zip : mg "zip" = none) (F_law_numbers : Fn P w K mg base CX0 2 "_law_numbers" ["_law_cell", "_law_many", "_law_most"] Zbd) (F_law_way : Fn P w K mg base CX0 1 "_law_way" ["_law_roads", "_law_k"] Zjo)
  (F_law_add : Fn P w K mg base CX0 2 "_law_add" ["_law_one", "_law_other"] ZeE) (F_law_low : Fn P w K mg base CX0 1 "_law_low" ["_law_top", "_law_bottom"] Zb8) : FnOk P w K mg base CX0 3 f fd ["_law_roads", "_law_homes", "_law_cell"] ZfJ := by
 refine okQ F sc_law_shared_by (fun vs H Q E h => ?_) (fun cdv A outer s H vs Q E hr h => ?_)
 ·obtain ⟨p, d, c, xs, rs, o, kvs, ss, hf, rfl, _⟩ := h; rfl
 obtain ⟨p, d, c, xs, rs, o, kvs, ss, hf, rfl, hp, hR, hd, hks, hnd, hl12, hH, hrl, hO, hz, q⟩ := h
 have hkl : kvs.length = ss.length := by have := congrArg List.length hks; simpa using this
 have hkv : (kvs.map fun kv => kV kv.1) = ss.map V.str := by
  have := congrArg (List.map kV) hks
  rw [List.map_map, List.map_map] at this
  exact this
 have hway : ∀ z ∈ ss, WayR rs (hf z) (wayL rs (hf z)) ∧ (wayL rs (hf z)).length ≤ rs.length ∧ Zdn kvs (Sum.inr z) = some (.int (hf z : Int)) := fun z hz => by
  have h := (hH [z] (fun y hy => by rw [List.mem_singleton.mp hy]; exact hz)).2 0 z (hf z) rfl rfl
  obtain ⟨w, hw, hwl⟩ := Zcn hO h.2
  rw [Zb9 hw]
  exact ⟨hw, hwl, h.1⟩
 refine ⟨_, (Zac (Zap 3 sc_law_shared_by.nd Zis)
   (Zac (ZbQ PassesOwn.never (Zfy (q_v 1)) (Zar 4 sc_law_shared_by.nd) (Zai (Zd9 (ZbL hr) (q_v 3) (q_v 4) (ZcH (a_c Zad (a_c Zad Zab))))))
   (Zac (Zap 5 sc_law_shared_by.nd (ZaY F_law_numbers hr (by decide) rfl (a_c (q_v 2) (a_c (Zbi (ZbS rfl n_len (a_c (q_v 0) Zab)) (q_lenD rfl n_len (a_c (q_v 1) Zab))) (a_c Zad Zab)))))
   (Zac (ZbQ PassesOwn.never (i_rng2 rfl n_range (a_c Zad (a_c (ZbG (ZbS rfl n_len (a_c (q_v 0) Zab)) Zad) Zab))) (Zar 6 sc_law_shared_by.nd) (Zac (Zht 7 (Zji ["_law_name"] [0, 1, 6] ["_law_roads", "_law_homes", "_law_k"]) (Zfy (q_v 1)) (by exact fun s H fp => (Zar 0 (show List.Nodup (["_law_name", "_law_roads", "_law_homes", "_law_k"] : List Str) from by decide +kernel))) (by exact fun s H fp => Zg5 (Zik K (q_v 3) (ZaY F_law_way hr (by decide) rfl (a_c (q_v 1) (a_c (ZbZ (ZbL hr) (q_v 2) (q_v 0)) Zab))))) (by exact fun s H fp => (q_v 0)) (Zar 7 sc_law_shared_by.nd))
   (Zac (Zdx 8 (Zji ["_law_name"] [5] ["_law_numbers_here"]) (Zbm (q_v 7)) (by exact fun s H fp => (Zar 0 (show List.Nodup (["_law_name", "_law_numbers_here"] : List Str) from by decide +kernel))) (by exact fun s H fp => (q_max rfl n_max (a_c Zad (a_c (Zc3 (q_popL (q_v 1)) Zad) Zab)))) (Zar 8 sc_law_shared_by.nd))
   (Zac (Zc0 (t_eq (Zjk rfl n_sum (a_c (q_v 8) Zab)) Zad) (Zai (Zdx 8 (blk0 ["_law_name"]) (Zbm (q_v 7)) (by exact fun s H fp => (Zar 0 (show List.Nodup (["_law_name"] : List Str) from by decide +kernel))) (by exact fun s H fp => Zad) (Zar 8 sc_law_shared_by.nd))) Zbs)
   (Zai (ZbQ PassesOwn.never (i_zip rfl n_zip (a_c (q_v 7) (a_c (q_v 8) Zab))) (Zhh (n := 2) (Zbq (Zar 4 sc_law_shared_by.nd) (Zbq (Zar 9 sc_law_shared_by.nd) Zew))) (Zac (Zap 10 sc_law_shared_by.nd (ZaJ (Zcf (q_v 0) (Zc3 (q_v 6) Zad)) Zad))
   (Zai (Zd9 (ZbL hr) (q_v 3) (q_v 4) (ZaY F_law_add hr (by decide) rfl (a_c (ZbZ (ZbL hr) (q_v 3) (q_v 4)) (a_c (ZaY F_law_low hr (by decide) rfl (a_c (Zbi (ZaJ (q_v 10) Zad) (q_v 9)) (a_c (Zbi (ZaJ (q_v 10) Zad) (Zjk rfl n_sum (a_c (q_v 8) Zab))) Zab))) Zab))))))))))))
   (Zai (Zay (q_v 3))))))), ?_⟩
 rw [show Zav ["_law_roads", "_law_homes", "_law_cell", "_law_sharing", "_law_name", "_law_numbers_here", "_law_k", "_law_names", "_law_parts", "_law_part", "_law_price"] [.ref p, .ref d, .int c] = [some (.ref p), some (.ref d), some (.int c), none, none, none, none, none, none, none, none] from rfl]
 walk_at "rd"
 intro b H1 hb s1 e1
 simp only [ZiN]
 walk_at "rd"
 refine ZkV (o := o) (kvs := kvs) (fun i σ H' => ∃ (o4 : Option V) (svs : List (Key × V)), σ = [some (V.ref p), some (V.ref d), some (V.int c), some (V.ref b), o4, none, none, none, none, none, none] ∧ Same H H' ∧ H' b = some (.dK svs) ∧ ShV H' svs (ss.take i) (fun _ => 0)) ⟨_, [], rfl, s1, e1, by simp, fun i z h => by simp at h⟩ (fun i σ H' _ ⟨_, _, _, sm', _⟩ => sm' _ _ hd) (fun i kv σ H' hi hP => ?_) (fun σ H' hP => ?_)
 ·obtain ⟨o4, svs, rfl, sm', eb, hS⟩ := hP
  have hil : i < ss.length := by rw [← hkl]; exact (List.getElem?_eq_some_iff.mp hi).1
  have hz0 := List.getElem?_eq_getElem hil
  have hkk : kv.1 = Sum.inr ss[i] := by
   have := congrArg (·[i]?) hks
   simp only [List.getElem?_map, hi, hz0, Option.map_some, Option.some.injEq] at this
   exact this
  rw [hkk]
  walk_at "rd"
  intro t H2 ht s2 e2
  have eb2 := s2 _ _ eb
  have kp : ∀ b' ys, H2 b' = some (.tup ys) → upd H2 b (.dK (Zbr svs (Sum.inr ss[i]) (.ref t))) b' = some (.tup ys) := fun b' ys e => by rw [Zae (ZbI e eb2 (by intro z; cases z))]; exact e
  refine ⟨svs, eb2, .inr ss[i], rfl, by rw [hS.1, List.length_take]; omega, Zam hb (sm'.trans s2), _, upd_same, ?_⟩
  rw [List.take_add_one, hz0]
  refine ShV.snoc ((hS.keep fun b ys e => s2 _ _ e).keep kp) (fun hm => ?_) ⟨t, rfl, kp _ _ e2⟩
  have h1 : (ss.take (i + 1)).Nodup := hnd.sublist (List.take_sublist _ _)
  rw [List.take_add_one, hz0] at h1
  exact (List.nodup_append.mp h1).2.2 _ hm _ (by simp) rfl
 ·obtain ⟨o4, svs, rfl, sm', eb, hS⟩ := hP
  rw [hkl, List.take_length] at hS
  dsimp only
  walk_at "rd"
  have hxl := hR.1
  have hlen : xs.length * kvs.length ≤ 240 := by
   rw [hxl, hkl]
   exact Nat.le_trans (Nat.mul_le_mul hrl hl12) (by decide)
  have e240 : ((xs.length : Int) * (kvs.length : Int)) = ((xs.length * kvs.length : Nat) : Int) := by simp
  refine ⟨xs, .inl (sm' _ _ hp), kvs, .inr ⟨o, sm' _ _ hd⟩, Zcj (a := 5) (b := 4) (by rw [Int.natAbs_natCast]; omega) (by rw [Int.natAbs_natCast]; omega) (by decide), _, _, _, rfl, by rw [e240]; omega, by rw [e240]; omega, by decide, by decide, fun nb H3 nums hnb s3 e3 hnl hnb7 => ?_⟩
  rw [e240] at hnl
  have hbn : b ≠ nb := Zaj eb hnb
  have s03 := sm'.trans s3
  have hnb0 : H nb = none := sm'.free hnb
  rw [ZiR]
  walk_at "rd"
  refine ⟨xs, .inl (s03 _ _ hp), by omega, by omega, ?_⟩
  refine Zd7 (Psh H p d b nb c rs ss hf) ⟨_, _, _, _, _, _, svs, fun _ => 0, 1, nums, rfl, s03, s3 _ _ eb, e3, ?_, hnb7, hS.keep (fun b ys e => s3 _ _ e), Nat.one_pos, by simp, fun z _ => ⟨Nat.one_dvd _, Rat.le_refl, Zc9 (by decide)⟩, fun j r h => absurd h (Nat.not_lt_zero j), fun ks _ hk => ?_⟩ (fun i σ H4 hi hP => ?_) (fun σ H4 hP => ?_)
  ·rw [Nat.sub_zero, ← hxl, ← hkl]; omega
  ·have : ks = [] := by
    cases ks with
    | nil => rfl
    | cons k ks => have := (hk k).mp (.head _); have := (Zba this.2).1; omega
   subst this
   rw [Zgo]
   rfl
  ·obtain ⟨o4, o6, o7, o8, o9, o10, svs, qf, B, ns, rfl, s4, eb4, en4, hnl4, hn7, hS4, hB0, hB1, hq4, hd4, ht4⟩ := hP
   have hir : i < rs.length := by omega
   have hri := List.getElem?_eq_getElem hir
   have hix : i < xs.length := by omega
   refine ZaR fun R0 hR0 => ?_
   walk_at "rd"
   simp only [Zdi, Zgi, cxK]
   walk_at "rd"
   refine ⟨o, kvs, s4 _ _ hd, ?_⟩
   rw [show ZbK [some (V.ref p), some (V.ref d), some (V.int c), some (V.ref b), o4, some (V.ref nb), some (V.int (1 + (i : Int))), o7, o8, o9, o10] [0, 1, 6] = [some (V.ref p), some (V.ref d), some (V.int (1 + (i : Int)))] from rfl]
   refine Zh6 (fun z => decide (i + 1 ∈ wayL rs (hf z))) (s4 _ _ hd) hkv (by omega) (fun z hz' H' k sm'' hk => ?_) (fun np H5 hnp s5 e5 => ?_)
   ·obtain ⟨hw1, hw2, hw3⟩ := hway z hz'
    have s0 := s4.trans sm''
    walk_at "rd"
    refine ⟨kvs, .inr ⟨o, s0 _ _ hd⟩, .inr z, rfl, _, hw3, p, xs, rs, hf z, wayL rs (hf z), rfl, s0 _ _ hp, hR.same s0, hw1, by omega, fun pw H6 hpw s6 e6 => ?_⟩
    simp only [rIn]
    walk_at "rd"
    refine ⟨_, .inl (.of e6), rfl, ZeD, ?_⟩
    have ei : (1 + (i : Int)) = ((i + 1 : Nat) : Int) := by omega
    rw [ei, Zf4]
    exact hk H6 s6
   have s05 := s4.trans s5
   have eb5 := s5 _ _ eb4
   have en5 := s5 _ _ en4
   have hS5 := hS4.keep fun b ys e => s5 _ _ e
   have hnpn : np ≠ nb := fun z => by rw [z, en4] at hnp; cases hnp
   have hnpb : np ≠ b := fun z => by rw [z, eb4] at hnp; cases hnp
   have hul : (ss.filter fun z => decide (i + 1 ∈ wayL rs (hf z))).length ≤ ss.length := List.length_filter_le _ _
   have hus : ∀ z ∈ ss.filter (fun z => decide (i + 1 ∈ wayL rs (hf z))), z ∈ ss := fun z hz => (List.mem_filter.mp hz).1
   have hus2 : ∀ z ∈ ss.filter (fun z => decide (i + 1 ∈ wayL rs (hf z))), i + 1 ∈ wayL rs (hf z) := fun z hz => by simpa using (List.mem_filter.mp hz).2
   have hum : ∀ z ∈ ss, i + 1 ∈ wayL rs (hf z) → z ∈ ss.filter (fun z => decide (i + 1 ∈ wayL rs (hf z))) := fun z hz h => List.mem_filter.mpr ⟨hz, by simpa using h⟩
   have hun : (ss.filter fun z => decide (i + 1 ∈ wayL rs (hf z))).Nodup := hnd.filter _
   generalize ss.filter (fun z => decide (i + 1 ∈ wayL rs (hf z))) = us at e5 hul hus hus2 hum hun
   subst hR0
   try dsimp only
   refine ZaR fun R0 hR0 => ?_
   walk_at "rd"
   simp only [Zc8, Zeh, cxK]
   walk_at "rd"
   refine ⟨⟨_, .of e5⟩, ?_⟩
   rw [show ZbK [some (V.ref p), some (V.ref d), some (V.int c), some (V.ref b), o4, some (V.ref nb), some (V.int (1 + (i : Int))), some (V.ref np), o8, o9, o10] [5] = [some (V.ref nb)] from rfl]
   unfold Zko
   refine Zdv (xs := us.map V.str) (fun acc j ys H' => (∀ b' o', b' ≠ nb → H5 b' = some o' → H' b' = some o') ∧ acc ≠ nb ∧ H' acc = some (.lst ys) ∧ j ≤ us.length ∧ (∃ ns' : List Int, H' nb = some (.lst (ns'.map V.int)) ∧ ns'.length + j = ns.length ∧ ∀ n ∈ ns', 0 ≤ n ∧ n < 7) ∧ ∃ ps : List Int, ys = ps.map V.int ∧ ps.length = j ∧ ∀ m ∈ ps, 0 ≤ m ∧ m ≤ 4)
    (fun acc H2 hn sm e => ⟨fun b' o' _ e' => sm _ _ e', (Zaj en5 hn).symm, e, Nat.zero_le _, ⟨ns, sm _ _ en5, rfl, hn7⟩, [], rfl, rfl, (fun m hm => by cases hm)⟩) (fun acc j ys H2 hn hP => ?_) (fun acc j y ys H2 os hn hj hP ol => ?_) (fun acc ys H2 hn hP => ?_)
   ·obtain ⟨h1, h2, h3, h4, _, ps, rfl, h5, _⟩ := hP
    exact ⟨h3, by rw [List.length_map]; omega, .of (h1 _ _ hnpn e5)⟩
   ·obtain ⟨h1, h2, h3, h4, ⟨ns', h6, h7, h8⟩, ps, rfl, h5, h9⟩ := hP
    obtain ⟨o', rfl⟩ : ∃ o', os = [o'] := by match os, ol with | [o'], _ => exact ⟨o', rfl⟩
    have hju : j < us.length := by have := (List.getElem?_eq_some_iff.mp hj).1; simpa using this
    walk_at "rd"
    refine ⟨[some y], rfl, rfl, ?_⟩
    simp only [tYes]
    walk_at "rd"
    have hn0 : 0 < ns'.length := by
     have : ss.length ≤ (rs.length - i) * ss.length := Nat.le_mul_of_pos_left _ (by omega)
     omega
    have hlast : (ns'.map V.int)[(ns'.map V.int).length - 1]? = some (.int ns'[ns'.length - 1]) := by
     rw [List.length_map, List.getElem?_map, List.getElem?_eq_getElem (by omega)]
     rfl
    have hlb := h8 _ (List.getElem_mem (show ns'.length - 1 < ns'.length by omega))
    refine ⟨_, h6, _, hlast, _, rfl, by rw [Zae h2]; exact h3, fun b' o' hb' e' => ?_, h2, upd_same, hju, ⟨ns'.dropLast, by rw [Zae h2.symm, upd_same, List.map_dropLast], by rw [List.length_dropLast]; omega, fun n hn => h8 n (List.dropLast_subset _ hn)⟩, ps ++ [if 0 < ns'[ns'.length - 1] - 2 then ns'[ns'.length - 1] - 2 else 0], by simp, by simp [h5], fun m hm => ?_⟩
    ·have hba : b' ≠ acc := fun z => by rw [z, hn] at e'; cases e'
     rw [Zae hba, Zae hb']
     exact h1 b' o' hb' e'
    ·rcases List.mem_append.mp hm with hm | hm
     ·exact h9 m hm
     ·rw [List.mem_singleton.mp hm]
      split <;> omega
   obtain ⟨h1, h2, h3, _, ⟨ns', h6, h7, h8⟩, ps, rfl, h5, h9⟩ := hP
   rw [List.length_map] at h5 h7
   have hpr := (hz _ (List.mem_of_getElem? hri))
   have hneed : Zcs rs (ss.map hf) (i + 1) ↔ us ≠ [] := by
    rw [ZbP fun z hz => (hway z hz).1]
    constructor
    ·rintro ⟨z, hz', hk⟩ hu
     have := hum z hz' hk
     rw [hu] at this
     cases this
    ·intro hu
     obtain ⟨z, hz'⟩ := List.exists_mem_of_ne_nil us hu
     exact ⟨z, hus z hz', hus2 z hz'⟩
   have hlv : ∀ ps : List Int, (∀ m ∈ ps, 0 ≤ m ∧ m ≤ 4) → 0 ≤ ps.sum ∧ ps.sum ≤ 4 * ps.length := fun ps h => by
    induction ps with
    | nil => simp
    | cons m ps ih => rw [List.sum_cons, List.length_cons]; have := h m (.head _); have := ih fun x hx => h x (.tail _ hx); omega
   have hbacc : acc ≠ b := fun z => by rw [z, eb5] at hn; cases hn
   have hnpacc : acc ≠ np := (Zaj e5 hn).symm
   subst hR0
   try dsimp only
   refine ZaR fun R1 hR1 => ?_
   suffices fin : ∀ (pp : Addr) (ps : List Int) (H8 : Hp), (∀ b' o', b' ≠ nb → H5 b' = some o' → H8 b' = some o') → H8 nb = some (.lst (ns'.map V.int)) → H8 pp = some (.lst (ps.map V.int)) → pp ≠ b → pp ≠ nb → ps.length = us.length → (∀ m ∈ ps, 0 ≤ m ∧ m ≤ 4) → (us ≠ [] → 0 < ps.sum) →
     R1 [some (V.ref p), some (V.ref d), some (V.int c), some (V.ref b), o4, some (V.ref nb), some (V.int (1 + (i : Int))), some (V.ref np), some (V.ref pp), o9, o10] H8 by
    refine ZcK fun A0 hA0 C0 hC0 => ?_
    walk_at "rd"
    refine ⟨ps, h3, ?_⟩
    by_cases c0 : ps.sum = 0
    ·rw [if_pos c0]
     subst hA0
     walk_at "rd"
     simp only [Zc8, Zeh, cxK]
     walk_at "rd"
     refine ⟨⟨_, .of (h1 _ _ hnpn e5)⟩, ?_⟩
     refine Zgy IntR Zi2 (xs := us.map V.str) (as := us.map fun _ => (1 : Int)) (h1 _ _ hnpn e5) (by simp) (by rw [List.length_map]; omega) (fun i' y t' hi' ht' H' kk os sm'' ol hkk => ?_) (fun pq H8 zs hpq s8 e8 hY => ?_)
     ·obtain ⟨o', rfl⟩ : ∃ o', os = [o'] := by match os, ol with | [o'], _ => exact ⟨o', rfl⟩
      rw [List.getElem?_map] at ht'
      obtain ⟨_, _, rfl⟩ := Option.map_eq_some_iff.mp ht'
      walk_at "rd"
      refine ⟨[some y], rfl, rfl, ?_⟩
      walk_at "rd"
      exact hkk _ _ (fun _ _ w => w) rfl
     ·rw [Zkq hY] at e8
      refine fin pq _ H8 (fun b' o' hb' e' => s8 _ _ (h1 b' o' hb' e')) (s8 _ _ h6) e8 (fun z => by rw [z, h1 _ _ hbn eb5] at hpq; cases hpq) (fun z => by rw [z, h6] at hpq; cases hpq) (by simp) (fun m hm => ?_) fun hu => ?_
      ·obtain ⟨_, _, rfl⟩ := List.mem_map.mp hm
       omega
      ·rw [one_sum]
       have := List.length_pos_iff.mpr hu
       omega
    ·rw [if_neg c0]
     subst hC0
     walk_at "rd"
     exact fin acc ps H2 h1 h6 h3 hbacc h2 h5 h9 fun _ => by have := hlv ps h9; omega
   intro pp ps H8 k8 en8 ep8 hppb hppn hpl hp4 hT
   have eb8 := k8 _ _ hbn eb5
   have e8n := k8 _ _ hnpn e5
   have s08 : Same H H8 := fun b' o' e' => k8 b' o' (Zaj e' hnb0) (s05 _ _ e')
   have hsum := hlv ps hp4
   obtain ⟨Tn, hTn0, hTn1, hTn2⟩ : ∃ Tn : Nat, 0 < Tn ∧ Tn < 64 ∧ (us ≠ [] → (Tn : Int) = ps.sum) := by
    by_cases hu : us = []
    ·exact ⟨1, by decide, by decide, fun h => absurd hu h⟩
    ·have := hT hu
     exact ⟨ps.sum.toNat, by omega, by omega, fun _ => by omega⟩
   have hden := rs[i].2.den_pos
   have hpsz := hpr.1
   have hB'0 : 0 < B * (rs[i].2.den * Tn) := Nat.mul_pos hB0 (Nat.mul_pos hden hTn0)
   have hdv : B ∣ B * (rs[i].2.den * Tn) := Nat.dvd_mul_right _ _
   have kp8 : ∀ b' ys, H5 b' = some (.tup ys) → H8 b' = some (.tup ys) := fun b' ys e => k8 _ _ (ZbI e en5 (by intro z; cases z)) e
   subst hR1
   try dsimp only
   rw [ZgA]
   walk_at "rd"
   refine ZiH (xs := us.map V.str) (ys := ps.map V.int) (by simp [hpl]) (Psz H p d b nb np pp c (.int (1 + (i : Int))) ss us ps ns' i Tn rs[i].2 qf (B * (rs[i].2.den * Tn))) ⟨_, _, _, svs, qf, rfl, s08, eb8, en8, e8n, ep8, hS5.keep kp8, fun z hz' => ⟨Nat.dvd_trans (hq4 z hz').1 hdv, (hq4 z hz').2.1, (hq4 z hz').2.2.mono (by omega), fun _ => (hq4 z hz').2.2⟩, by rw [List.take_zero, List.sum_nil, Int.mul_zero, Rat.zero_divInt, Rat.add_zero]⟩
    (fun j σ H' _ ⟨_, _, _, _, _, _, _, _, _, g1, g2, _⟩ => ⟨.of g1, .of g2⟩) (fun j x y σ H9 pt H10 hx hy hP hpt s10 e10 => ?_) (fun σ H9 hP => ?_)
   ·obtain ⟨q4, q9, q10, sv9, qg, rfl, s9, eb9, en9, enp9, epp9, hS9, hq9, ht9⟩ := hP
    rw [List.getElem?_map] at hx hy
    obtain ⟨z, hzj, rfl⟩ := Option.map_eq_some_iff.mp hx
    obtain ⟨m, hmj, rfl⟩ := Option.map_eq_some_iff.mp hy
    have hjl := (List.getElem?_eq_some_iff.mp hzj).1
    have hune : us ≠ [] := fun e => by rw [e] at hjl; simp at hjl
    have hTs := hTn2 hune
    have hzs := hus z (List.mem_of_getElem? hzj)
    have hm4 := hp4 m (List.mem_of_getElem? hmj)
    have s010 := s9.trans s10
    obtain ⟨pr, yr, exr, hprt, hyr⟩ := (hR.same s010).2 i _ _ (List.getElem?_eq_getElem hix) hri
    obtain ⟨py, rfl, hpy⟩ := id hyr
    obtain ⟨v, ev, rv⟩ := (hS9.keep fun b ys e => s10 _ _ e).val hnd z hzs
    have hznt : z ∉ us.take j := fun hm => by
     have h1 : (us.take (j + 1)).Nodup := hun.sublist (List.take_sublist _ _)
     rw [List.take_add_one, hzj] at h1
     exact (List.nodup_append.mp h1).2.2 _ hm _ (by simp) rfl
    have szq := (hq9 z hzs).2.2.2 hznt
    have sT : ((Tn : Nat) : Int).natAbs < 2 ^ 6 := by rw [Int.natAbs_natCast]; omega
    have sm3 : m.natAbs < 2 ^ 3 := by omega
    have hdp : (0 : Int) < (rs[i].2.den : Int) * (Tn : Int) := Int.mul_pos (by omega) (by omega)
    have szn := Zbe hpsz.1 sm3
    have szdn := Zbe (ZaP hpsz) sT
    have szsh : SzQ 117 (Rat.divInt (rs[i].2.num * m) ((rs[i].2.den : Int) * (Tn : Int))) := SzQ.of (by omega) (ZaN szn (by omega)) (ZaN szdn (by omega))
    have h0sh : 0 ≤ Rat.divInt (rs[i].2.num * m) ((rs[i].2.den : Int) * (Tn : Int)) := (Rat.divInt_nonneg_iff_of_pos_right hdp).mpr (Int.mul_nonneg hpr.2 hm4.1)
    have hdsh : (Rat.divInt (rs[i].2.num * m) ((rs[i].2.den : Int) * (Tn : Int))).den ∣ B * (rs[i].2.den * Tn) := by
     have e : ((rs[i].2.den : Int) * (Tn : Int)) = ((rs[i].2.den * Tn : Nat) : Int) := by simp
     rw [e]
     exact Nat.dvd_trans (den_div (Nat.mul_pos hden hTn0)) (Nat.dvd_mul_left _ _)
    walk_at "rd"
    refine ⟨_, e10, rfl, _, _, rfl, _, _, rfl, rfl, xs, s010 _ _ hp, .ref pr, ?_, pr, rfl, _, hprt, _, rfl, sv9, .inl (s10 _ _ eb9), .inr z, rfl, v, ev, py, rfl, _, hpy, _, rfl, _, rfl, ?_⟩
    ·rw [show (1 : Int) + (i : Int) - 1 = (i : Int) by omega, ← exr]
     exact ZaE (List.getElem?_eq_getElem hix)
    have sTs : ps.sum.natAbs < 2 ^ 6 := by rw [← hTs]; exact sT
    refine ⟨m, rfl, Zcj hpsz.1 sm3 (by decide), py, rfl, _, hpy, _, rfl, ps, s10 _ _ epp9, _, rfl, Zcj (ZaP hpsz) sTs (by decide), _, _, rfl, ?_⟩
    rw [← hTs]
    refine ⟨Big.of szdn (by decide), hdp, fun r11 H11 s11 v11 => ⟨v, r11, _, _, rfl, rv.same s11, v11, szq.mono (by omega), szsh.mono (by decide), fun r12 H12 s12 v12 => ?_⟩⟩
    have s912 := s10.trans (s11.trans s12)
    have eb12 := s912 _ _ eb9
    have kp : ∀ b' ys, H12 b' = some (.tup ys) → upd H12 b (.dK (Zbr sv9 (Sum.inr z) r12)) b' = some (.tup ys) := fun b' ys e => by rw [Zae (ZbI e eb12 (by intro z; cases z))]; exact e
    refine ⟨sv9, eb12, .inr z, rfl, by rw [hS9.1]; omega, _, _, _, Zbr sv9 (Sum.inr z) r12, fun y => if y = z then qg y + Rat.divInt (rs[i].2.num * m) ((rs[i].2.den : Int) * (Tn : Int)) else qg y, rfl, Zam hb (s9.trans s912), upd_same, by rw [Zae hbn.symm]; exact s912 _ _ en9, by rw [Zae hnpb]; exact s912 _ _ enp9, by rw [Zae hppb]; exact s912 _ _ epp9, ?_, fun y hy => ?_, ?_⟩
    ·refine ShV.put ((hS9.keep fun b ys e => s912 _ _ e).keep kp) hzs ?_ fun y hy => if_neg hy
     rw [if_pos rfl]
     exact v12.keep kp
    ·obtain ⟨d1, d2, d3, d4⟩ := hq9 y hy
     have htk : us.take (j + 1) = us.take j ++ [z] := by rw [List.take_add_one, hzj]; rfl
     dsimp only
     by_cases cy : y = z
     ·subst cy
      rw [if_pos rfl]
      exact ⟨den_add hB'0 d1 hdsh, Rat.add_nonneg d2 h0sh, szq.add szsh (by omega), fun hn => absurd (by rw [htk]; simp) hn⟩
     ·rw [if_neg cy]
      exact ⟨d1, d2, d3, fun hn => d4 fun hm => hn (by rw [htk]; exact List.mem_append_left _ hm)⟩
    ·rw [Zhi hnd hzs, ht9, Rat.add_assoc, ZeP (by omega), ← Int.mul_add, Zlx ps j m hmj]
   ·obtain ⟨q4, q9, q10, sv9, qg, rfl, s9, eb9, en9, enp9, epp9, hS9, hq9, ht9⟩ := hP
    rw [List.length_map, ← hpl, List.take_length] at ht9
    have hBle : B * (rs[i].2.den * Tn) ≤ 2 ^ (117 * (i + 1)) := by
     have h1 : rs[i].2.den ≤ 2 ^ 110 := Nat.le_of_lt hpsz.2
     have h2 : rs[i].2.den * Tn ≤ 2 ^ 110 * 2 ^ 6 := Nat.mul_le_mul h1 (by omega)
     refine Nat.le_trans (Nat.mul_le_mul hB1 h2) ?_
     rw [← Nat.pow_add, ← Nat.pow_add]
     exact Nat.pow_le_pow_right (by decide) (by omega)
    have hnl' : (rs.length - (i + 1)) * ss.length ≤ ns'.length := by
     have h1 : (rs.length - i) * ss.length = (rs.length - (i + 1)) * ss.length + ss.length := by
      rw [show rs.length - i = (rs.length - (i + 1)) + 1 by omega, Nat.add_mul, Nat.one_mul]
     omega
    refine ⟨_, _, _, _, _, _, sv9, qg, B * (rs[i].2.den * Tn), ns', rfl, s9, eb9, en9, hnl', h8, hS9, hB'0, hBle, fun z hz' => ⟨(hq9 z hz').1, (hq9 z hz').2.1, (hq9 z hz').2.2.1⟩, fun j r hj hr => ?_, fun ks hkn hkm => ?_⟩
    ·by_cases cj : j = i
     ·subst cj
      rw [hri] at hr
      cases hr
      exact Nat.dvd_trans (Nat.dvd_mul_right _ _) (Nat.dvd_mul_left _ _)
     ·exact Nat.dvd_trans (hd4 j r (by omega) hr) hdv
    ·have hpa : Zah rs (i + 1) = rs[i].2 := by unfold Zah; rw [Nat.add_sub_cancel, hri]; rfl
     have h1 := ht4 (ks.filter fun k => !decide (k = i + 1)) (hkn.filter _) fun k => by
      rw [List.mem_filter, hkm k]
      simp
      constructor
      ·rintro ⟨⟨h1, h2⟩, h3⟩; exact ⟨by omega, h2⟩
      ·rintro ⟨h1, h2⟩; exact ⟨⟨by omega, h2⟩, by omega⟩
     by_cases hu : us = []
     ·have hnk : ∀ k ∈ ks, k ≠ i + 1 := fun k hk e => (hneed.mp (e ▸ ((hkm k).mp hk).2)) hu
      rw [List.filter_eq_self.mpr fun k hk => by simp [hnk k hk]] at h1
      have hps : ps = [] := List.length_eq_zero_iff.mp (by rw [hpl, hu]; rfl)
      rw [ht9, h1, hps, List.sum_nil, Int.mul_zero, Rat.zero_divInt, Rat.add_zero]
     ·have hTs := hTn2 hu
      have hmem : i + 1 ∈ ks := (hkm _).mpr ⟨Nat.le_refl _, hneed.mpr hu⟩
      have hpm : ks.Perm ((i + 1) :: ks.filter fun k => !decide (k = i + 1)) := by
       refine (List.perm_ext_iff_of_nodup hkn ?_).mpr fun k => ?_
       ·rw [List.nodup_cons]
        exact ⟨fun h => by simpa using (List.mem_filter.mp h).2, hkn.filter _⟩
       ·rw [List.mem_cons, List.mem_filter]
        simp
        by_cases ck : k = i + 1
        ·subst ck; simp [hmem]
        ·simp [ck]
      rw [Zf6 (hpm.map _), List.map_cons, ZaB, hpa, ← h1, ht9, ← hTs, Rat.divInt_mul_right (by omega), Rat.num_divInt_den, Rat.add_comm]
  ·obtain ⟨o4, o6, o7, o8, o9, o10, svs, qf, B, ns, rfl, s4, eb4, en4, hnl4, hn7, hS4, hB0, hB1, hq4, hd4, ht4⟩ := hP
   walk_at "rd"
   have e20 : (((xs.length : Int) + 1 - 1).toNat) = rs.length := by omega
   rw [e20] at hB1 hd4 ht4
   refine q b H4 svs qf B hb s4 eb4 hS4 hB0 (Nat.le_trans hB1 (Nat.pow_le_pow_right (by decide) (by omega))) (fun z hz => ⟨(hq4 z hz).1, (hq4 z hz).2.1⟩) (fun r hr => ?_) fun ks hkn hkm => ht4 ks hkn fun k => (hkm k).trans ⟨fun h => ⟨(Zba h).2, h⟩, fun h => h.2⟩
   obtain ⟨j, hj, rfl⟩ := List.getElem_of_mem hr
   exact hd4 j _ hj (List.getElem?_eq_getElem hj)
end
theorem Zev : ∀ {ss : List Str} {its : List Value}, Vals (ss.map V.str) its → ∀ u ∈ its, ∃ z t, u = Value.str z t ∧ z ∈ ss
 | [], its, h => by cases h; intro u hu; cases hu
 | s :: ss, its, h => by
  cases h with
  | cons h1 h2 =>
   obtain ⟨t, rfl⟩ := h1
   intro u hu
   rcases List.mem_cons.mp hu with rfl | hu
   ·exact ⟨s, t, rfl, .head _⟩
   ·obtain ⟨z, t', e, hz⟩ := Zev h2 u hu
    exact ⟨z, t', e, .tail _ hz⟩
def isZ (z : Str) : Value → Bool
 | .str y _ => y == z
 | _ => false
theorem Zem {z : Str} : ∀ {ss : List Str} {its : List Value}, Vals (ss.map V.str) its → its.countP (isZ z) = ss.countP (· == z)
 | [], its, h => by cases h; rfl
 | s :: ss, its, h => by
  cases h with
  | cons h1 h2 =>
   obtain ⟨t, rfl⟩ := h1
   rw [List.countP_cons, List.countP_cons, Zem h2]
   rfl
section
variable {X : Cx} {t : TA}
def Ziy : V → List V → Hp → VK → Prop := fun x vs H Q => ∃ (l : Addr) (ss : List Str) (z : Str), x = .ref l ∧ vs = [.str z] ∧ H l = some (.lst (ss.map V.str)) ∧ Q (.int (ss.countP (· == z) : Nat)) H
theorem Zjs : MtM X "list.count" Ziy := by
 intro pins s σ H x vs v us Q I rx rv h
 obtain ⟨l, ss, z, rfl, rfl, hH, q⟩ := h
 cases rx
 obtain ⟨u, rfl, ru⟩ := rv.one
 obtain ⟨tk, rfl⟩ := (show ∃ t, u = Value.str z t from ru)
 obtain ⟨z', its, n, r, hl, e⟩ := I.lstM hH
 refine call_meets F.slot_list_count ⟨_, e, rfl⟩ F.entry_list_count (F.args_list_count_2 _ _) (SeqAt.list_countAt l _ n none #[] _ (isZ z)) ⟨e, fun y hy => ?_, ?_⟩
 ·obtain ⟨s', t', rfl, _⟩ := Zev r y (by simpa using hy)
  have := ZjV (A := X.A.in1) (s := s) (y := .str s') (x := .str z) (u := .str s' t') (v := .str z tk) ⟨_, rfl⟩ ⟨_, rfl⟩ rfl rfl
  exact this
 ·refine ⟨.int _, H, I.tok _, ⟨_, rfl⟩, ?_⟩
  rw [List.toList_toArray, Zem r]
  exact q
theorem ZlO {o e : Expr} {to : TE} {apos cpos : Pos} (ho : QE X o to) (ha : QA X [e] t) (hbase : attributeBase o "count" X.env (eval o X.env) = eval o X.env := by rfl) (hline : (apos.endLine == cpos.line) = true := by rfl) (hp : Zao e = true := by rfl) :
  QE X (.Call (.Attribute o "count" apos) [e] [] cpos) (tLm Ziy to t) :=
 ⟨pe_lm PySem.F.slot_list_count PySem.F.type_list_count Zjs ho.h ha.h hbase (by rw [Zak hp]; rfl) hline (Zak hp) rfl⟩
end
theorem Zjd {ss : List Str} (hn : ss.Nodup) {z : Str} (hz : z ∈ ss) : ss.countP (· == z) = 1 := by
 induction ss with
 | nil => cases hz
 | cons y ss ih =>
  rw [List.nodup_cons] at hn
  rw [List.countP_cons]
  by_cases c : y = z
  ·subst c
   rw [List.countP_eq_zero.mpr fun x hx => by simp; intro e; exact hn.1 (e ▸ hx)]
   simp
  ·rw [ih hn.2 (by rcases List.mem_cons.mp hz with h | h; exact absurd h.symm c; exact h)]
   simp [c]
def sp_gh (CT : Addr) : Sp := fun vs H Q _ => ∃ (p d sd g : Addr) (xs : List V) (x : V) (rs : List (Nat × Rat)) (o : Obj) (kvs svs : List (Key × V)) (ss : List Str) (hf : Str → Nat) (B : Nat) (a : Str → Int) (cs : Nat → Int) (G : List Str), vs = [.ref p, .ref d, .ref sd, .ref g] ∧ H p = some (.lst xs) ∧ RoadsV H xs rs ∧ Jd H CT x d sd rs o kvs svs ss hf B a cs ∧ H g = some (.lst (G.map V.str)) ∧ G.Pairwise leS ∧ G.Nodup ∧ (∀ z ∈ G, z ∈ ss) ∧ ZiL rs hf cs a G ∧ ∀ H', Same H H' → Q (.bl true) H'
theorem ZlQ {H : Hp} {a b : Addr} {ss : List Str} (ha : H a = some (.lst (ss.map V.str))) (hb : H b = some (.lst (ss.map V.str))) : EqD H (.ref a) (.ref b) true 1 := by
 have h := EqD.lst (e := fun _ => true) (n := 0) ha hb rfl fun j x y h1 h2 => by
  rw [h1] at h2
  cases h2
  obtain ⟨z, _, rfl⟩ := List.mem_map.mp (List.mem_of_getElem? h1)
  have z := EqD.flat (H := H) (x := .str z) (y := .str z) rfl rfl
  rw [ZcW rfl] at z
  exact z
 rw [ZdM fun _ _ => rfl] at h
 exact h
theorem ZlA {B : Nat} (hB : 0 < B) {m : Int} (h : 0 < m) : 0 < (ZaG B m).num := by
 have h := (@ZbT B hB 0 m).mpr h
 rw [Zb2, Rat.lt_iff] at h
 simpa using h
theorem Zk6 {rs : List (Nat × Rat)} {k : Nat} : ¬ Zcs rs [] k := fun ⟨_, h, _⟩ => by cases h
section
variable {P : Program} {w : World} {K : PySem.W.Frag} {mg : Str → Option Value} {base : Heap} {f pt : Addr} {fd : FuncData} {CT CNP : Addr}
theorem ok_gh (F : Fun K "_law_group_holds" "_law_group_holds" ZaD f fd) (n_isinstance : mg "isinstance" = none) (n_list : mg "list" = none) (n_len : mg "len" = none) (n_str : mg "str" = none) (n_sorted : mg "sorted" = none) (F_law_less : Fn P w K mg base CX0 2 "_law_less" ["_law_one", "_law_other"] Zcp) (F_law_total : Fn P w K mg base CX0 3 "_law_total" ["_law_some"] Zd2)
  (F_law_cost : Fn P w K mg base CX0 4 "_law_cost" ["_law_roads", "_law_homes", "_law_group"] ZeI) : FnOk P w K mg base CX0 5 f fd ["_law_roads", "_law_homes", "_law_sharing", "_law_group"] (sp_gh CT) := by
 refine okQ F sc_law_group_holds (fun vs H Q E h => ?_) (fun cdv A outer s H vs Q E hr h => ?_)
 ·obtain ⟨p, d, sd, g, xs, x, rs, o, kvs, svs, ss, hf, B, a, cs, G, rfl, _⟩ := h; rfl
 obtain ⟨p, d, sd, g, xs, x, rs, o, kvs, svs, ss, hf, B, a, cs, G, rfl, hp, hR, J, hg, hGw, hGn, hGs, hov, q⟩ := h
 have hG0 : G ≠ [] := fun e => by
  subst e
  have := hov [] List.nodup_nil fun k => ⟨(fun h => by cases h), fun h => absurd h Zk6⟩
  simp [ZgX] at this
 have hGl : G.length ≤ 12 := Nat.le_trans (List.Nodup.length_le_of_subset hGn fun z hz => hGs z hz) J.few
 refine ⟨_, (Zac (Zc0 (t_w (Zh4 (Zc5 (Zcb (Zdh rfl n_isinstance (a_c (q_v 3) (a_c (q_ty rfl n_list rfl) Zab))))) (Zfm (t_eq (ZbS rfl n_len (a_c (q_v 3) Zab)) Zad)))) (Zai (Zay Zj8)) Zbs)
   (Zac (ZbQ PassesOwn.never (Zbm (q_v 3)) (Zar 4 sc_law_group_holds.nd) (Zai (Zc0 (t_w (Zh4 (Zc5 (Zcb (Zdh rfl n_isinstance (a_c (q_v 4) (a_c (q_ty rfl n_str rfl) Zab))))) (Zh4 (t_ninD (ZbL hr) (q_v 4) (q_v 1)) (Zfm (t_ne (ZlO (q_v 3) (a_c (q_v 4) Zab)) Zad))))) (Zai (Zay Zj8)) Zbs)))
   (Zac (Zap 5 sc_law_group_holds.nd (ZaY F_law_less hr (by decide) rfl (a_c (ZaY F_law_total hr (by decide) rfl (a_c (Zen (Zji ["_law_name"] [2] ["_law_sharing"]) (Zbm (q_v 3)) (by exact fun s H fp => (Zar 0 (show List.Nodup (["_law_name", "_law_sharing"] : List Str) from by decide +kernel))) (by exact fun s H fp => (ZbZ (ZbL hr) (q_v 1) (q_v 0)))) Zab)) (a_c (ZaY F_law_cost hr (by decide) rfl (a_c (q_v 0) (a_c (q_v 1) (a_c (q_v 3) Zab)))) Zab))))
   (Zai (Zay (ZhR (q_eqD hr (q_v 3) (ZcO rfl n_sorted (a_c (q_v 3) Zab))) (ZjY (q_gt (ZaJ (q_v 5) Zad) Zad)))))))), ?_⟩
 rw [show Zav ["_law_roads", "_law_homes", "_law_sharing", "_law_group", "_law_name", "_law_more"] [.ref p, .ref d, .ref sd, .ref g] = [some (.ref p), some (.ref d), some (.ref sd), some (.ref g), none, none] from rfl]
 refine ZaR fun R0 hR0 => ?_
 refine ZcK fun A0 hA0 C0 hC0 => ?_
 walk_at "rd"
 refine ⟨"list", by simp [ZcF, hg], ?_⟩
 rw [if_neg (by decide)]
 refine ⟨_, .inl hg, ?_⟩
 rw [if_neg (by rw [List.length_map]; have := List.length_pos_iff.mpr hG0; omega)]
 subst hC0
 walk_at "rd"
 subst hR0
 try dsimp only
 refine ZaR fun R0 hR0 => ?_
 rw [Za6]
 walk_at "rd"
 refine Zbl (xs := G.map V.str) (fun i σ H' => ∃ o4 : Option V, σ = [some (V.ref p), some (V.ref d), some (V.ref sd), some (V.ref g), o4, none] ∧ H' = H) ⟨_, rfl, rfl⟩ (fun i σ H' _ ⟨_, _, e⟩ => by rw [e]; exact .of hg) (fun i y σ H' hi hP => ?_) (fun σ H' hP => ?_)
 ·obtain ⟨o4, rfl, rfl⟩ := hP
  rw [List.getElem?_map] at hi
  obtain ⟨z, hz, rfl⟩ := Option.map_eq_some_iff.mp hi
  have hzG := List.mem_of_getElem? hz
  obtain ⟨hk, hvz⟩ := (J.hat [z] (fun y hy => by rw [List.mem_singleton.mp hy]; exact hGs z hzG)).2 0 z (hf z) rfl rfl
  walk_at "rd"
  refine ⟨"str", rfl, ?_⟩
  rw [if_neg (by decide)]
  refine ⟨kvs, .inr ⟨o, J.home⟩, .inr z, rfl, ?_⟩
  rw [hk, if_neg (by simp)]
  refine ⟨⟨_, hg⟩, g, G, z, rfl, rfl, hg, rfl, ?_⟩
  rw [Zjd hGn hzG, if_neg (by simp)]
 ·obtain ⟨o4, rfl, rfl⟩ := hP
  subst hR0
  try dsimp only
  refine ZaR fun R0 hR0 => ?_
  walk_at "rd"
  simp only [Zc8, Zeh, cxK]
  walk_at "rd"
  refine ⟨⟨_, .of hg⟩, ?_⟩
  rw [show ZbK [some (V.ref p), some (V.ref d), some (V.ref sd), some (V.ref g), o4, none] [2] = [some (V.ref sd)] from rfl]
  refine Zgy RatV ZdJ (xs := G.map V.str) (as := (G.map a).map (ZaG B)) hg (by simp) (by rw [List.length_map]; omega) (fun i' y t' hi' ht' H2 kk os sm'' ol hkk => ?_) (fun pq H2 zs hpq s2 e2 hY => ?_)
  ·obtain ⟨o', rfl⟩ : ∃ o', os = [o'] := by match os, ol with | [o'], _ => exact ⟨o', rfl⟩
   rw [List.getElem?_map] at hi'
   obtain ⟨z, hz', rfl⟩ := Option.map_eq_some_iff.mp hi'
   rw [List.map_map, List.getElem?_map, hz'] at ht'
   cases ht'
   obtain ⟨v, ev, rv⟩ := (J.shv.keep fun b ys e => sm'' _ _ e).val J.nd z (hGs z (List.mem_of_getElem? hz'))
   walk_at "rd"
   refine ⟨[some (.str z)], rfl, rfl, ?_⟩
   walk_at "rd"
   exact ⟨svs, Zcy J.share sm'', .inr z, rfl, _, ev, hkk _ _ (fun _ _ w => w) rv⟩
  have haz : ∀ z ∈ G, (a z).natAbs < 2 ^ 2600 := fun z hz => J.az z (hGs z hz)
  have hb27 : B < 2 ^ 2700 := Nat.lt_of_lt_of_le J.b1 (Nat.pow_le_pow_right (by decide) (by decide))
  have hsz : RatsSz ((G.map a).map (ZaG B)) := by
   refine ⟨fun i hi => ?_, fun i t h => ?_⟩
   ·rw [List.length_map, List.length_map] at hi
    rw [ZcJ J.b0 _ _ (by simpa using hi), ← List.map_take]
    exact (Zbo J.b0 hb27 (sm_lt (ss := G.take i) (by rw [List.length_take]; omega) fun z hz => haz z (List.mem_of_mem_take hz))).mono (by decide)
   ·rw [List.map_map, List.getElem?_map] at h
    obtain ⟨z, hz, rfl⟩ := Option.map_eq_some_iff.mp h
    exact (Zbo J.b0 J.b1 (haz z (List.mem_of_getElem? hz))).mono (by decide)
  refine ⟨pq, zs, _, rfl, e2, hY, hsz, fun r1 H3 s3 v1 => ?_⟩
  rw [ZeY J.b0] at v1
  replace v1 : RatV H3 r1 (ZaG B (sm G a)) := v1
  have s03 := s2.trans s3
  refine ⟨p, d, g, xs, rs, kvs, G, G.map hf, rfl, s03 _ _ hp, hR.same s03, .inr ⟨o, s03 _ _ J.home⟩, s03 _ _ hg, J.hat G hGs, J.rl, by omega, J.ok, J.sz, fun r2 H4 acc s4 hna hma v2 => ?_⟩
  have hbd : ∀ k ∈ acc, 1 ≤ k ∧ k ≤ rs.length := fun k hk => Zba ((hma k).mp hk)
  have hal := Zci hna hbd
  have eac : ZaU (acc.map (Zah rs)) = ZaG B (sm acc cs) := by
   rw [← J.price hbd, Zgl]
  have szac : SzQ 3000 (ZaU (acc.map (Zah rs))) := (ZcA J.sz acc).mono (by have := J.rl; omega)
  rw [eac] at v2 szac
  have szG : SzQ 3000 (ZaG B (sm G a)) := (Zbo J.b0 hb27 (sm_lt hGl haz)).mono (by decide)
  refine ⟨r1, r2, _, _, rfl, v1.same s4, v2, szG, szac, fun r3 H5 s5 v3 => ?_⟩
  rw [Zdp J.b0] at v3
  have hpos := hov acc hna hma
  have s05 := s03.trans (s4.trans s5)
  subst hR0
  walk_at "rd"
  refine ⟨G, s05 _ _ hg, by omega, fun l H6 ts hl s6 e6 hso hpe => ?_⟩
  have ets : ts = G := Zgg hso hGw hpe
  subst ets
  refine ⟨true, 1, g, l, rfl, rfl, ZlQ (s6 _ _ (s05 _ _ hg)) e6, by decide, ?_⟩
  obtain ⟨pv, rfl, hpv⟩ := v3.same s6
  refine ⟨true, rfl, ?_⟩
  rw [if_pos rfl]
  refine ⟨pv, rfl, _, hpv, _, rfl, _, rfl, ?_⟩
  rw [decide_eq_true (ZlA J.b0 (by omega))]
  exact q H6 (s05.trans s6)
end
theorem ZfQ {kvs : List (Key × V)} {n : Nat} (h : HomesV kvs n) (hn : (kvs.map (·.1)).Nodup) : ∃ ss : List Str, kvs.map (·.1) = ss.map Sum.inr ∧ ss.Nodup ∧ ss.length = kvs.length ∧ ∀ z ∈ ss, ∃ k : Nat, Zdn kvs (Sum.inr z) = some (.int (k : Int)) ∧ k ≤ n := by
 have e : kvs.map (·.1) = (kvs.map fun kv => (match kv.1 with | Sum.inr z => z | Sum.inl _ => Str.empty)).map (Sum.inr : Str → Key) := by
  rw [List.map_map]
  refine List.map_congr_left fun kv hkv => ?_
  obtain ⟨z, k, rfl, _⟩ := h kv hkv
  rfl
 refine ⟨_, e, ?_, by simp, fun z hz => ?_⟩
 ·rw [e] at hn
  exact (List.pairwise_map.mp hn).imp fun h c => h (by rw [c])
 ·obtain ⟨kv, hkv, rfl⟩ := List.mem_map.mp hz
  obtain ⟨i, hi, ei⟩ := List.getElem_of_mem hkv
  obtain ⟨z, k, rfl, hk⟩ := h kv hkv
  exact ⟨k, Zf0 (i := i) (by rw [List.getElem?_eq_getElem hi, ei]) hn, hk⟩
theorem ZhD {H : Hp} {a b : Addr} {kvs : List (Key × V)} {n : Nat} (ha : Rd H a (.dK kvs)) (hb : Rd H b (.dK kvs)) (hN : (kvs.map (·.1)).Nodup) (hv : HomesV kvs n) : EqP H (.ref a) (.ref b) 3 :=
 .dct (n := 1) ha hb rfl (fun j x y h1 h2 => by
  rw [h1] at h2
  cases h2
  obtain ⟨z, k, rfl, _⟩ := hv x (List.mem_of_getElem? h1)
  have z := EqD.flat (H := H) (x := .int (k : Int)) (y := .int (k : Int)) rfl rfl
  rw [ZcW rfl] at z
  exact ⟨rfl, .up z⟩) hN
theorem Zhw {H : Hp} {a b : Addr} {svs : List (Key × V)} {ss : List Str} {qf : Str → Rat} (ha : Rd H a (.dK svs)) (hb : Rd H b (.dK svs)) (hN : ss.Nodup) (hv : ShV H svs ss qf) : EqP H (.ref a) (.ref b) 3 :=
 .dct (n := 1) ha hb rfl (fun j x y h1 h2 => by
  rw [h1] at h2
  cases h2
  have hj : j < ss.length := by rw [← hv.1]; exact (List.getElem?_eq_some_iff.mp h1).1
  obtain ⟨v, e, r⟩ := hv.2 j _ (List.getElem?_eq_getElem hj)
  rw [h1] at e
  cases e
  obtain ⟨_, _, _, _, h⟩ := ZiV r r
  exact ⟨rfl, h⟩) (by rw [hv.keys]; exact ZfH hN)
theorem ZcB {B : Nat} {q : Rat} (h : 0 ≤ q) : 0 ≤ Zd5 B q := by
 unfold Zd5
 exact Int.mul_nonneg (Rat.num_nonneg.mpr h) (Int.ediv_nonneg (by omega) (by omega))
theorem ZcD {α : Type} {B : Nat} (hB : 0 < B) (l : List α) (m : α → Int) : ZaU (l.map fun x => ZaG B (m x)) = ZaG B (sm l m) := by
 induction l with
 | nil => exact (Zb2 B).symm
 | cons x l ih => rw [List.map_cons, ZaB, ih, ZaA, Zcq hB]
theorem top_sz {B : Nat} {q : Rat} {n : Nat} (hB : B ≤ 2 ^ 2410) (hz : SzQ n q) (hn : n ≤ 120) : (Zd5 B q).natAbs < 2 ^ 2530 := by
 unfold Zd5
 rw [Int.natAbs_mul]
 have h1 : ((B : Int) / (q.den : Int)).natAbs ≤ B := by
  have : (B : Int) / (q.den : Int) = ((B / q.den : Nat) : Int) := rfl
  rw [this, Int.natAbs_natCast]
  exact Nat.div_le_self _ _
 refine Nat.lt_of_lt_of_le (Nat.mul_lt_mul_of_lt_of_le hz.1 (Nat.le_trans h1 hB) (Nat.two_pow_pos _)) ?_
 rw [← Nat.pow_add]
 exact Nat.pow_le_pow_right (by decide) (by omega)
theorem sm_few {acc : List Nat} {cs : Nat → Int} {M : Int} (hl : acc.length ≤ 20) (h : ∀ k ∈ acc, 0 ≤ cs k ∧ cs k ≤ M) (hM : 0 ≤ M) : 0 ≤ sm acc cs ∧ sm acc cs ≤ 20 * M := by
 have : ∀ l : List Nat, (∀ k ∈ l, 0 ≤ cs k ∧ cs k ≤ M) → 0 ≤ sm l cs ∧ sm l cs ≤ (l.length : Int) * M := by
  intro l
  induction l with
  | nil => intro _; simp [ZgX]
  | cons k l ih =>
   intro h
   have h1 := ih fun y hy => h y (.tail _ hy)
   have h2 := h k (.head _)
   rw [ZaA, List.length_cons, Int.natCast_add, Int.add_mul]
   refine ⟨by omega, ?_⟩
   have : ((1 : Nat) : Int) * M = M := by simp
   omega
 obtain ⟨h1, h2⟩ := this acc h
 refine ⟨h1, Int.le_trans h2 (Int.mul_le_mul_of_nonneg_right (by omega) hM)⟩
theorem Zgj {rs : List (Nat × Rat)} {ss : List Str} {hf : Str → Nat} {qf : Str → Rat} {B bn : Nat} (hB0 : 0 < B) (hB1 : B ≤ 2 ^ 2400) (hb0 : 0 < bn) (hb1 : bn ≤ 6) (hrl : rs.length ≤ 20) (hn : ∀ r ∈ rs, SzQ 110 r.2 ∧ 0 ≤ r.2.num) (hqd : ∀ z ∈ ss, (qf z).den ∣ B ∧ 0 ≤ qf z) (hpd : ∀ r ∈ rs, r.2.den ∣ B)
  (htot : ∀ ks : List Nat, ks.Nodup → (∀ k, k ∈ ks ↔ Zcs rs (ss.map hf) k) → ZaU (ss.map qf) = ZaU (ks.map (Zah rs))) :
  ∃ (a0 : Str → Int) (cs : Nat → Int), (∀ z ∈ ss, qf z = ZaG (B * bn) (a0 z)) ∧ (∀ z ∈ ss, 0 ≤ a0 z ∧ a0 z ≤ 20 * 2 ^ 2530) ∧ (∀ k, 0 ≤ cs k ∧ cs k ≤ 2 ^ 2530) ∧ (∀ k, Zah rs k = ZaG (B * bn) (cs k)) ∧ (∀ ks : List Nat, ks.Nodup → (∀ k, k ∈ ks ↔ Zcs rs (ss.map hf) k) → sm ks cs = sm ss a0) := by
 classical
 have hB' : 0 < B * bn := Nat.mul_pos hB0 hb0
 have hB2 : B * bn ≤ 2 ^ 2410 := by
  refine Nat.le_trans (Nat.mul_le_mul hB1 hb1) ?_
  rw [show (2410 : Nat) = 2400 + 10 from rfl, Nat.pow_add]
  exact Nat.mul_le_mul_left _ (by decide)
 have hdv : B ∣ B * bn := Nat.dvd_mul_right _ _
 have hpk : ∀ k, (Zah rs k).den ∣ B * bn ∧ 0 ≤ Zah rs k ∧ SzQ 110 (Zah rs k) := fun k => by
  unfold Zah
  cases h : rs[k - 1]? with
  | none => exact ⟨Nat.one_dvd _, Rat.le_refl, Zc9 (by decide)⟩
  | some r =>
   have hr := List.mem_of_getElem? h
   exact ⟨Nat.dvd_trans (hpd r hr) hdv, Rat.num_nonneg.mp (hn r hr).2, (hn r hr).1⟩
 have hcs : ∀ k, 0 ≤ Zd5 (B * bn) (Zah rs k) ∧ Zd5 (B * bn) (Zah rs k) ≤ 2 ^ 2530 := fun k => by
  have h1 := ZcB (B := B * bn) (hpk k).2.1
  have h2 := top_sz hB2 (hpk k).2.2 (by decide)
  refine ⟨h1, ?_⟩
  have h3 : ((2 ^ 2530 : Nat) : Int) = 2 ^ 2530 := by rw [Int.natCast_pow]; rfl
  omega
 have hq : ∀ z ∈ ss, qf z = ZaG (B * bn) (Zd5 (B * bn) (qf z)) := fun z hz => (ZdT hB' (Nat.dvd_trans (hqd z hz).1 hdv)).symm
 have hp : ∀ k, Zah rs k = ZaG (B * bn) (Zd5 (B * bn) (Zah rs k)) := fun k => (ZdT hB' (hpk k).1).symm
 have hsum : ∀ ks : List Nat, ks.Nodup → (∀ k, k ∈ ks ↔ Zcs rs (ss.map hf) k) → sm ks (fun k => Zd5 (B * bn) (Zah rs k)) = sm ss (fun z => Zd5 (B * bn) (qf z)) := fun ks h1 h2 => by
  have h := htot ks h1 h2
  rw [show ss.map qf = ss.map (fun z => ZaG (B * bn) (Zd5 (B * bn) (qf z))) from List.map_congr_left fun z hz => hq z hz, ZcD hB', show ks.map (Zah rs) = ks.map (fun k => ZaG (B * bn) (Zd5 (B * bn) (Zah rs k))) from List.map_congr_left fun k _ => hp k, ZcD hB'] at h
  exact (Zlg hB' h).symm
 refine ⟨fun z => Zd5 (B * bn) (qf z), fun k => Zd5 (B * bn) (Zah rs k), hq, fun z hz => ⟨ZcB (hqd z hz).2, ?_⟩, hcs, hp, hsum⟩
 have hnr : (List.range' 1 rs.length).Nodup := (List.pairwise_lt_range' (s := 1) (n := rs.length)).imp fun h e => by rw [e] at h; exact Nat.lt_irrefl _ h
 have hks := hsum ((List.range' 1 rs.length).filter fun k => decide (Zcs rs (ss.map hf) k)) (hnr.filter _) fun k => by
  rw [List.mem_filter, List.mem_range'_1, decide_eq_true_eq]
  exact ⟨fun h => h.2, fun h => ⟨⟨(Zba h).1, by have := (Zba h).2; omega⟩, h⟩⟩
 have h1 := ZdO (f := fun z => Zd5 (B * bn) (qf z)) (fun z hz => ZcB (hqd z hz).2) hz
 have h2 := (sm_few (acc := (List.range' 1 rs.length).filter fun k => decide (Zcs rs (ss.map hf) k)) (cs := fun k => Zd5 (B * bn) (Zah rs k)) (Nat.le_trans (List.length_filter_le _ _) (by simpa using hrl)) (fun k _ => hcs k) (Int.pow_nonneg (by decide))).2
 rw [hks] at h2
 exact Int.le_trans h1 h2
def ZjS (pt : Addr) (K : PySem.W.Frag) : Sp := fun vs H Q _ => ∃ (a : Addr) (ns : List Int), vs = [.ref a] ∧ SqL K H a (ns.map V.int) ∧ ZfX H pt "far_roads_first.<locals>.<lambda>" ∧ ∀ H', Q (.bl true) H'
section
variable {P : Program} {w : World} {K : PySem.W.Frag} {mg : Str → Option Value} {base : Heap} {f pt : Addr} {fd : FuncData} {CT CNP : Addr}
theorem ok_law (F : Fun K "law" "law" ZeX f fd) (n_len : mg "len" = none) (n_list : mg "list" = none) (n_dict : mg "dict" = none) (n_range : mg "range" = none) (n_isinstance : mg "isinstance" = none) (n_tuple : mg "tuple" = none) (F_law_cell_at : Fn P w K mg base CX0 1 "_law_cell_at" ["_law_script", "_law_k"] (Zb5 K))
  (F_law_roads_by : Fn P w K mg base CX0 3 "_law_roads_by" ["_law_script", "_law_most"] (ZeR K)) (F_law_homes_by : Fn P w K mg base CX0 3 "_law_homes_by" ["_law_script", "_law_many"] (Zfk K)) (F_law_shared_by : Fn P w K mg base CX0 3 "_law_shared_by" ["_law_roads", "_law_homes", "_law_cell"] ZfJ) (F_law_add : Fn P w K mg base CX0 2 "_law_add" ["_law_one", "_law_other"] ZeE) (F_law_less : Fn P w K mg base CX0 2 "_law_less" ["_law_one", "_law_other"] Zcp)
  (F_law_low : Fn P w K mg base CX0 1 "_law_low" ["_law_top", "_law_bottom"] Zb8) (F_law_cost : Fn P w K mg base CX0 4 "_law_cost" ["_law_roads", "_law_homes", "_law_group"] ZeI) (F_judged : Fn P w K mg base CX0 9 "judged" ["tree", "homes", "sharing"] (ZfM pt CT)) (F_law_group_holds : Fn P w K mg base CX0 5 "_law_group_holds" ["_law_roads", "_law_homes", "_law_sharing", "_law_group"] (sp_gh CT))
  (K_Tree : Mkr P w K mg base CX0 6 CT "Tree" ["self", "roads"] (Zj3 CT)) : FnOk P w K mg base CX0 10 f fd ["_law_script"] (ZjS pt K) := by
 refine okQ F sc_law (fun vs H Q E h => ?_) (fun cdv A outer s H vs Q E hr h => ?_)
 ·obtain ⟨a, ns, rfl, _⟩ := h; rfl
 obtain ⟨a, ns, rfl, hS, hTb, q⟩ := h
 refine ⟨_, (Zac (Zap 1 sc_law.nd (ZaY F_law_roads_by hr (by decide) rfl (a_c (q_v 0) (a_c Zad Zab))))
   (Zac (Zap 2 sc_law.nd (ZaY F_law_homes_by hr (by decide) rfl (a_c (q_v 0) (a_c (ZbG (ZbS rfl n_len (a_c (q_v 1) Zab)) Zad) Zab))))
   (Zac (Zap 3 sc_law.nd (q_make K_Tree hr (by decide) rfl (a_c (ZfI rfl n_list (a_c (q_v 1) Zab)) Zab)))
   (Zac (Zap 4 sc_law.nd (ZaY F_law_shared_by hr (by decide) rfl (a_c (q_v 1) (a_c (q_v 2) (a_c (ZaY F_law_cell_at hr (by decide) rfl (a_c (q_v 0) (a_c Zad Zab))) Zab)))))
   (Zac (Zap 5 sc_law.nd (ZfW rfl n_list (a_c (q_v 2) Zab)))
   (Zac (Zap 6 sc_law.nd (ZaY F_law_cell_at hr (by decide) rfl (a_c (q_v 0) (a_c Zad Zab))))
   (Zac (Zap 7 sc_law.nd (Zcf (q_v 5) (Za7 (q_v 6) (ZbS rfl n_len (a_c (q_v 5) Zab)))))
   (Zac (Zap 8 sc_law.nd (ZbG (ZbG (Za7 (q_v 6) (ZbS rfl n_len (a_c (q_v 5) Zab))) Zad) (Za7 (ZbH (q_v 6) Zad) (Zc3 (ZbS rfl n_len (a_c (q_v 5) Zab)) Zad))))
   (Zac (Zap 9 sc_law.nd (Zcf (q_v 5) (Za7 (q_v 8) (ZbS rfl n_len (a_c (q_v 5) Zab)))))
   (Zac (Zap 10 sc_law.nd (ZaY F_law_add hr (by decide) rfl (a_c (ZaY F_law_cost hr (by decide) rfl (a_c (q_v 1) (a_c (q_v 2) (a_c (Zdc (a_c (q_v 7) Zab)) Zab)))) (a_c (ZaY F_law_low hr (by decide) rfl (a_c (ZbG Zad (Za7 (ZbH (q_v 6) Zad) Zad)) (a_c (ZbG Zad (Za7 (ZbH (q_v 6) Zad) Zad)) Zab))) Zab))))
   (Zac (Zd9 (ZbL hr) (q_v 4) (q_v 7) (ZaY F_law_add hr (by decide) rfl (a_c (ZbZ (ZbL hr) (q_v 4) (q_v 7)) (a_c (q_v 10) Zab))))
   (Zac (Zd9 (ZbL hr) (q_v 4) (q_v 9) (ZaY F_law_less hr (by decide) rfl (a_c (ZbZ (ZbL hr) (q_v 4) (q_v 9)) (a_c (q_v 10) Zab))))
   (Zac (Zap 11 sc_law.nd (ZcH (a_c (q_dictF rfl n_dict (a_c (q_v 2) Zab)) (a_c (Zj4 rfl n_dict (a_c (q_v 4) Zab)) Zab))))
   (Zac (ZbQ PassesOwn.never (ZdY rfl n_range (a_c Zad Zab)) (Zar 12 sc_law.nd) (Zac (Zap 13 sc_law.nd (ZaY F_judged hr (by decide) rfl (a_c (q_v 3) (a_c (ZaJ (q_v 11) Zad) (a_c (ZaJ (q_v 11) Zad) Zab)))))
   (Zac (Zc0 (t_w (Zh4 (Zc5 (Zcb (Zdh rfl n_isinstance (a_c (q_v 13) (a_c (q_ty rfl n_tuple rfl) Zab))))) (Zh4 (t_ne (ZbS rfl n_len (a_c (q_v 13) Zab)) Zad) (Zh4 (t_ne (ZaJ (q_v 13) Zad) Zfq) (Zfm (t_neP hr (q_v 11) (ZcH (a_c (q_v 2) (a_c (q_v 4) Zab))))))))) (Zai (Zay Zj8)) Zbs)
   (Zac (Zc0 (Zc5 (Zcb (ZaY F_law_group_holds hr (by decide) rfl (a_c (q_v 1) (a_c (q_v 2) (a_c (q_v 4) (a_c (ZaJ (q_v 13) Zad) Zab))))))) (Zai (Zay Zj8)) Zbs)
   (Zai (Zbt (ZeM (ZaJ (q_v 13) Zad) (a_c Zfq Zab))))))))
   (Zai (Zay Zj8)))))))))))))))), ?_⟩
 rw [show Zav ["_law_script", "_law_roads", "_law_homes", "_law_tree", "_law_sharing", "_law_names", "_law_cell", "_law_one", "_law_at", "_law_other", "_law_more", "_law_handed", "_law_turn", "_law_told"] [.ref a] = [some (.ref a), none, none, none, none, none, none, none, none, none, none, none, none, none] from rfl]
 walk_at "rd"
 simp only [ZeR]
 walk_at "rd"
 refine ⟨⟨ns, hS⟩, fun p H1 xs rs hp s1 e1 hR hT hl hn => ?_⟩
 have hxl := hR.1
 refine ⟨xs, .inl e1, a, ns, xs.length, rfl, s1.seq hS, fun d H2 kvs o hd s2 e2 hHV hND hkl hk2 => ?_⟩
 rw [hxl] at hHV
 refine ⟨p, xs, rfl, .inl (.of (s2 _ _ e1)), fun l H3 hl3 s3 e3 x dx hx hdx hne => ?_⟩
 have old : ∀ b o, H3 b = some o → upd (upd H3 dx (.own x)) x (.ins CT dx []) b = some o := fun b o e => by rw [Zae (Zaj e hx), Zae (Zaj e hdx)]; exact e
 refine ⟨x, dx, l, xs, rs, rfl, upd_same, old _ _ e3, (hR.same (s2.trans s3)).keep fun b ys e => old b _ e, hT, by omega, fun r hr => (hn r hr).2, fun H4 k4 hT4 _ => ⟨rfl, ?_⟩⟩
 have s34 : Same H3 H4 := fun b o e => k4 b o (Zaj e hx) (old b o e)
 clear old k4
 have s24 := s3.trans s34
 have s14 := s2.trans s24
 have s04 := s1.trans s14
 obtain ⟨ss, ess, hnd, hsl, hval⟩ := ZfQ hHV hND
 obtain ⟨hf, hat⟩ := ZkF hval
 have hs12 : ss.length ≤ 12 := by omega
 have hkv : (kvs.map fun kv => kV kv.1) = ss.map V.str := by
  have := congrArg (List.map kV) ess
  rw [List.map_map, List.map_map] at this
  exact this
 have hway : ∀ z ∈ ss, WayR rs (hf z) (wayL rs (hf z)) := fun z hz => by
  have h := (hat [z] (fun y hy => by rw [List.mem_singleton.mp hy]; exact hz)).2 0 z (hf z) rfl rfl
  obtain ⟨w, hw, _⟩ := Zcn hT h.2
  rw [Zb9 hw]
  exact hw
 refine ⟨a, ns, 6, rfl, s04.seq hS, p, d, _, xs, rs, o, kvs, ss, hf, rfl, s14 _ _ e1, hR.same s14, s24 _ _ e2, ess, hnd, hs12, hat, by omega, hT, hn, fun b H5 svs qf B hb s5 e5 hSh hB0 hB1 hqd hpd htot => ?_⟩
 have s15 := s14.trans s5
 have s25 := s24.trans s5
 have s05 := s04.trans s5
 refine ⟨d, kvs, rfl, .inr ⟨o, s25 _ _ e2⟩, fun nl H6 hnl s6 e6 => ?_⟩
 rw [hkv] at e6
 refine ⟨a, ns, 7, rfl, (s05.trans s6).seq hS, ?_⟩
 generalize cellOf ns 7 = c
 have hn2 : 2 ≤ ss.length := by omega
 have hm0 := Int.emod_nonneg c (b := (ss.length : Int)) (by omega)
 have hm1 := Int.emod_lt_of_pos c (b := (ss.length : Int)) (by omega)
 have ht0 := Int.emod_nonneg (c / 7) (b := (ss.length : Int) - 1) (by omega)
 have ht1 := Int.emod_lt_of_pos (c / 7) (b := (ss.length : Int) - 1) (by omega)
 generalize eu : c / 7 % ((ss.length : Int) - 1) = u at ht0 ht1
 obtain ⟨i0, hi0⟩ : ∃ i0 : Nat, c % (ss.length : Int) = (i0 : Int) := ⟨_, (Int.toNat_of_nonneg hm0).symm⟩
 have hj0 := Int.emod_nonneg (c % (ss.length : Int) + 1 + u) (b := (ss.length : Int)) (by omega)
 have hj1 := Int.emod_lt_of_pos (c % (ss.length : Int) + 1 + u) (b := (ss.length : Int)) (by omega)
 obtain ⟨i1, hi1⟩ : ∃ i1 : Nat, (c % (ss.length : Int) + 1 + u) % (ss.length : Int) = (i1 : Int) := ⟨_, (Int.toNat_of_nonneg hj0).symm⟩
 have hne01 : i0 ≠ i1 := fun e => by
  subst e
  have e2 : (c % (ss.length : Int) + 1 + u) % (ss.length : Int) = c % (ss.length : Int) := by rw [hi1, hi0]
  rw [hi0] at e2 hm0 hm1
  by_cases cc : (i0 : Int) + 1 + u < ss.length
  ·rw [Int.emod_eq_of_lt (by omega) cc] at e2; omega
  ·have := Int.emod_emod_of_dvd ((i0 : Int) + 1 + u) (Int.dvd_refl (ss.length : Int))
   have e3 : ((i0 : Int) + 1 + u) % (ss.length : Int) = (i0 : Int) + 1 + u - ss.length := by
    rw [← Int.sub_emod_right, Int.emod_eq_of_lt (by omega) (by omega)]
   rw [e3] at e2
   omega
 have hl0 : i0 < ss.length := by omega
 have hl1 : i1 < ss.length := by omega
 have hg6 : ∀ i : Nat, (hi : i < ss.length) → atI (ss.map V.str) (i : Int) = some (.str ss[i]) := fun i hi => ZaE (by rw [List.getElem?_map, List.getElem?_eq_getElem hi]; rfl)
 have hll : (List.map V.str ss).length = ss.length := List.length_map ..
 refine ⟨nl, rfl, _, .inl e6, c, rfl, by rw [hll]; omega, nl, rfl, _, e6, .str ss[i0], by rw [hll, hi0]; exact hg6 i0 hl0, nl, rfl, _, .inl e6, c, rfl, by rw [hll]; omega, c, rfl, nl, rfl, _, .inl e6, by rw [hll]; omega, nl, rfl, _, .inl e6, by rw [hll]; omega, nl, rfl, _, e6, .str ss[i1], by rw [hll, eu, hi1]; exact hg6 i1 hl1, ?_⟩
 have hz0 : ss[i0] ∈ ss := List.getElem_mem hl0
 have hz1 : ss[i1] ∈ ss := List.getElem_mem hl1
 have hzne : ss[i1] ≠ ss[i0] := fun e => hne01 (by
  have h1 := List.Nodup.idxOf_getElem hnd i0 hl0
  have h2 := List.Nodup.idxOf_getElem hnd i1 hl1
  rw [e, h1] at h2
  exact h2)
 generalize ss[i0] = z0 at hz0 hzne
 generalize ss[i1] = z1 at hz1 hzne
 intro gl H7 hgl s7 e7
 have s57 := s6.trans s7
 have s07 := s05.trans s57
 have s17 := s15.trans s57
 have s27 := s25.trans s57
 refine ⟨p, d, gl, xs, rs, kvs, [z0], [hf z0], rfl, s17 _ _ e1, hR.same s17, .inr ⟨o, s27 _ _ e2⟩, e7, hat [z0] (fun y hy => by rw [List.mem_singleton.mp hy]; exact hz0), by omega, by simp, hT, fun r hr => (hn r hr).1, fun r1 H8 acc s8 hna hma v1 => ?_⟩
 obtain ⟨bn, hbn⟩ : ∃ bn : Nat, 1 + c / 504 % 6 = (bn : Int) := ⟨(1 + c / 504 % 6).toNat, by omega⟩
 have hbn0 : 0 < bn := by omega
 have hbn1 : bn ≤ 6 := by omega
 obtain ⟨a0, cs, hqa, ha0, hcs, hpc, hts⟩ := Zgj (hf := hf) hB0 hB1 hbn0 hbn1 (by omega) hn hqd hpd htot
 have hB' : 0 < B * bn := Nat.mul_pos hB0 hbn0
 have hB2 : B * bn < 2 ^ 2600 := by
  refine Nat.lt_of_le_of_lt (Nat.mul_le_mul hB1 hbn1) ?_
  rw [show (2600 : Nat) = 2400 + 200 from rfl, Nat.pow_add]
  exact Nat.mul_lt_mul_of_pos_left (by decide) (Nat.two_pow_pos _)
 have hbd : ∀ k ∈ acc, 1 ≤ k ∧ k ≤ rs.length := fun k hk => Zba ((hma k).mp hk)
 have hacl : acc.length ≤ 20 := Nat.le_trans (Zci hna hbd) (by omega)
 have hsa := sm_few hacl (fun k _ => hcs k) (Int.pow_nonneg (by decide))
 have e1c : ZaU (acc.map (Zah rs)) = ZaG (B * bn) (sm acc cs) := by
  rw [show acc.map (Zah rs) = acc.map (fun k => ZaG (B * bn) (cs k)) from List.map_congr_left fun k _ => hpc k, ZcD hB']
 rw [e1c] at v1
 have hfd : (Rat.divInt (1 + c / 42 % 12) (bn : Int)).den ∣ B * bn := Nat.dvd_trans (Zdu hbn0 _) (Nat.dvd_mul_left _ _)
 have hfe : Rat.divInt (1 + c / 42 % 12) (bn : Int) = ZaG (B * bn) ((1 + c / 42 % 12) * B) := by
  unfold ZaG
  rw [Int.natCast_mul, Int.mul_comm (B : Int), Rat.divInt_mul_right (by omega)]
 have hBi : (B : Int) ≤ 2 ^ 2400 := by
  have h3 : ((2 ^ 2400 : Nat) : Int) = 2 ^ 2400 := by rw [Int.natCast_pow]; rfl
  omega
 refine ⟨c, rfl, c, rfl, _, _, rfl, ?_⟩
 rw [hbn]
 refine ⟨Big.of (n := 3) (by rw [Int.natAbs_natCast]; omega) (by decide), by omega, fun r2 H9 s9 v2 => ?_⟩
 rw [hfe] at v2
 have hlim : ∀ m : Int, -(2 ^ 40 * 2 ^ 2530) ≤ m → m ≤ 2 ^ 40 * 2 ^ 2530 → m.natAbs < 2 ^ 2600 := fun m h1 h2 => by
  have e : ((2 ^ 40 * 2 ^ 2530 : Nat) : Int) = 2 ^ 40 * 2 ^ 2530 := by rw [Int.natCast_mul, Int.natCast_pow, Int.natCast_pow]; rfl
  have h3 : m.natAbs ≤ 2 ^ 40 * 2 ^ 2530 := by omega
  refine Nat.lt_of_le_of_lt h3 ?_
  rw [← Nat.pow_add]
  exact Nat.pow_lt_pow_right (by decide) (by decide)
 have hBm : (B : Int) ≤ 2 ^ 2530 := Int.le_trans hBi (by
  have : (2 : Nat) ^ 2400 ≤ 2 ^ 2530 := Nat.pow_le_pow_right (by decide) (by decide)
  have e1 : ((2 ^ 2400 : Nat) : Int) = 2 ^ 2400 := by rw [Int.natCast_pow]; rfl
  have e2 : ((2 ^ 2530 : Nat) : Int) = 2 ^ 2530 := by rw [Int.natCast_pow]; rfl
  omega)
 have hf0 : 0 < (1 + c / 42 % 12) * (B : Int) := Int.mul_pos (by omega) (by omega)
 have hf1 : (1 + c / 42 % 12) * (B : Int) ≤ 12 * 2 ^ 2530 := Int.mul_le_mul (by omega) hBm (by omega) (by decide)
 generalize (1 + c / 42 % 12) * (B : Int) = fi at v2 hf0 hf1 hfe
 generalize (2 : Int) ^ 2530 = M at hlim hBm hf1 hsa ha0 hcs
 have szf : ∀ m : Int, -(2 ^ 40 * M) ≤ m → m ≤ 2 ^ 40 * M → SzQ 3000 (ZaG (B * bn) m) := fun m h1 h2 => (Zbo hB' hB2 (hlim m h1 h2)).mono (by decide)
 have hM0 : 0 ≤ M := by omega
 refine ⟨r1, r2, _, _, rfl, v1.same s9, v2, szf _ (by omega) (by omega), szf _ (by omega) (by omega), fun r3 H10 s10 v3 => ?_⟩
 rw [Zcq hB'] at v3
 have s810 := s9.trans s10
 have s510 := s57.trans (s8.trans s810)
 have hSh10 : ShV H10 svs ss (fun z => ZaG (B * bn) (a0 z)) := ⟨hSh.1, fun i z h => by
  obtain ⟨v, e, r⟩ := hSh.2 i z h
  rw [hqa z (List.mem_of_getElem? h)] at r
  exact ⟨v, e, r.same s510⟩⟩
 obtain ⟨v, ev, rv⟩ := hSh10.val hnd z0 hz0
 have hb0' := ha0 z0 hz0
 have hb1' := ha0 z1 hz1
 refine ⟨b, rfl, svs, .inl (s510 _ _ e5), .inr z0, rfl, v, ev, v, r3, _, _, rfl, rv, v3, szf _ (by omega) (by omega), szf _ (by omega) (by omega), fun r4 H11 s11 v4 => ?_⟩
 rw [Zcq hB'] at v4
 have s511 := s510.trans s11
 have eb11 := s511 _ _ e5
 have kp : ∀ b' ys, H11 b' = some (.tup ys) → upd H11 b (.dK (Zbr svs (Sum.inr z0) r4)) b' = some (.tup ys) := fun b' ys e => by rw [Zae (ZbI e eb11 (by intro z; cases z))]; exact e
 have hShA : ShV (upd H11 b (.dK (Zbr svs (Sum.inr z0) r4))) (Zbr svs (Sum.inr z0) r4) ss (fun z => ZaG (B * bn) (if z = z0 then a0 z + (sm acc cs + fi) else a0 z)) := by
  refine ShV.put ((hSh10.keep fun b ys e => s11 _ _ e).keep kp) hz0 ?_ fun y hy => by rw [if_neg hy]
  rw [if_pos rfl]
  exact v4.keep kp
 obtain ⟨w1, ew1, rw1⟩ := hShA.val hnd z1 hz1
 rw [if_neg hzne] at rw1
 refine ⟨b, rfl, svs, eb11, .inr z0, rfl, by rw [hSh.1]; omega, b, rfl, _, .inl upd_same, .inr z1, rfl, w1, ew1, w1, r3, _, _, rfl, rw1, (v3.same s11).keep kp, szf _ (by omega) (by omega), szf _ (by omega) (by omega), fun r5 H12 s12 v5 => ?_⟩
 rw [Zdp hB'] at v5
 have eb12 := s12 _ _ (upd_same (H := H11) (a := b) (o := .dK (Zbr svs (Sum.inr z0) r4)))
 have kp2 : ∀ b' ys, H12 b' = some (.tup ys) → upd H12 b (.dK (Zbr (Zbr svs (Sum.inr z0) r4) (Sum.inr z1) r5)) b' = some (.tup ys) := fun b' ys e => by rw [Zae (ZbI e eb12 (by intro z; cases z))]; exact e
 have hShB : ShV (upd H12 b (.dK (Zbr (Zbr svs (Sum.inr z0) r4) (Sum.inr z1) r5))) (Zbr (Zbr svs (Sum.inr z0) r4) (Sum.inr z1) r5) ss (fun z => ZaG (B * bn) (a0 z + (if z = z0 then sm acc cs + fi else 0) - (if z = z1 then sm acc cs + fi else 0))) := by
  refine ShV.put (qf := fun z => ZaG (B * bn) (if z = z0 then a0 z + (sm acc cs + fi) else a0 z)) ((hShA.keep fun b ys e => s12 _ _ e).keep kp2) hz1 ?_ fun y hy => ?_
  ·rw [if_neg hzne, if_pos rfl, Int.add_zero]
   exact v5.keep kp2
  ·rw [if_neg hy, Int.sub_zero]
   by_cases cy : y = z0
   ·rw [if_pos cy, if_pos cy]
   ·rw [if_neg cy, if_neg cy, Int.add_zero]
 have s12' : Same H4 (upd H12 b (.dK (Zbr (Zbr svs (Sum.inr z0) r4) (Sum.inr z1) r5))) := Zam hb ((Zam hb (s5.trans s511)).trans s12)
 refine ⟨b, rfl, _, eb12, .inr z1, rfl, by rw [hShA.1]; omega, ?_⟩
 generalize Zbr (Zbr svs (Sum.inr z0) r4) (Sum.inr z1) r5 = sv2 at hShB s12'
 have ebF : upd H12 b (.dK sv2) b = some (.dK sv2) := upd_same
 generalize upd H12 b (.dK sv2) = HF at hShB s12' ebF
 have hd4 := s24 _ _ e2
 refine ⟨d, kvs, rfl, .inr ⟨o, s12' _ _ hd4⟩, fun d1 od1 H13 hd1 s13 e13 => ?_⟩
 refine ⟨b, sv2, rfl, .inl (s13 _ _ ebF), fun b1 H14 hb1 s14' e14 => ?_⟩
 intro ht H15 hht s15' e15
 have sF15 := s13.trans (s14'.trans s15')
 have s415 := s12'.trans sF15
 let aa : Str → Int := fun z => a0 z + (if z = z0 then sm acc cs + fi else 0) - (if z = z1 then sm acc cs + fi else 0)
 have hc0 : ∀ k, 0 ≤ cs k := fun k => (hcs k).1
 have hcz : ∀ k, (cs k).natAbs < 2 ^ 2600 := fun k => hlim _ (by have := (hcs k).1; omega) (by have := (hcs k).2; omega)
 have haz : ∀ z ∈ ss, (aa z).natAbs < 2 ^ 2600 := fun z hz => by
  have := ha0 z hz
  refine hlim _ ?_ ?_ <;> (show _ ≤ _; simp only [aa]; split <;> split <;> omega)
 have hsum : sm ss aa = sm ss a0 := by
  show sm ss (fun z => a0 z + (if z = z0 then sm acc cs + fi else 0) - (if z = z1 then sm acc cs + fi else 0)) = _
  rw [Zhb, ZfC, Zc6 hnd hz0 fun _ => sm acc cs + fi, Zc6 hnd hz1 fun _ => sm acc cs + fi]
  omega
 have hJ : ∀ (H' : Hp) (dd sd : Addr) (oo : Obj), Same H4 H' → H' dd = some (.frz oo (.dK kvs)) → Rd H' sd (.dK sv2) → ShV H' sv2 ss (fun z => ZaG (B * bn) (aa z)) → Jd H' CT (.ref x) dd sd rs oo kvs sv2 ss hf (B * bn) aa cs := fun H' dd sd oo sH h1 h2 h3 =>
  ⟨hT4.same sH, h1, ess, h2, h3, hnd, hs12, hat, by omega, hT, fun r hr => (hn r hr).1, hB', hB2, haz, hc0, hcz, fun k _ _ => hpc k, fun ks h1 h2 => by rw [hts ks h1 h2, hsum]⟩
 have hbad : ∀ (fr : List Nat) (pay : Nat → Str → Int), (∀ k, k ∈ fr ↔ Zcs rs (ss.map hf) k) → fr.Nodup → PayOk rs hf ss cs fr pay → (∀ z ∈ ss, aa z = sm fr (fun k => pay k z)) → False := fun fr pay hfm hfn hP hz => by
  have h1 := hz z0 hz0
  have h2 : aa z0 = a0 z0 + (sm acc cs + fi) := by
   show a0 z0 + (if z0 = z0 then sm acc cs + fi else 0) - (if z0 = z1 then sm acc cs + fi else 0) = _
   rw [if_pos rfl, if_neg (Ne.symm hzne), Int.sub_zero]
  have hac : ∀ k, k ∈ acc ↔ k ∈ wayL rs (hf z0) := fun k => by
   rw [hma k]
   have := ZbP (G := [z0]) (hf := hf) (k := k) fun z hz => hway z (by rw [List.mem_singleton.mp hz]; exact hz0)
   rw [show [hf z0] = [z0].map hf from rfl, this]
   simp
  have hsub : ∀ k ∈ acc, k ∈ fr := fun k hk => (hfm k).mpr ((ZbP hway).mpr ⟨z0, hz0, (hac k).mp hk⟩)
  have hp : acc.Perm (fr.filter fun k => decide (k ∈ acc)) := (List.perm_ext_iff_of_nodup hna (hfn.filter _)).mpr fun k => by
   rw [List.mem_filter]
   simp
   exact fun h => hsub k h
  have h3 : sm fr (fun k => pay k z0) ≤ sm acc cs := by
   rw [Zda hp, Zbg]
   refine Zk3 fun k hk => ?_
   by_cases ck : k ∈ acc
   ·rw [if_pos (by simpa using ck), ← hP.full k hk]
    exact ZdO (fun z _ => hP.nn k z) hz0
   ·rw [if_neg (by simpa using ck)]
    have : pay k z0 = 0 := Classical.byContradiction fun h => ck ((hac k).mpr (hP.on k z0 h).2.2)
    omega
  have := ha0 z0 hz0
  omega
 simp only [ZcV]
 walk_at "rd"
 refine Zd7 (fun i σ H' => ∃ o8 o12 o13 : Option V, σ = [some (V.ref a), some (V.ref p), some (V.ref d), some (V.ref x), some (V.ref b), some (V.ref nl), some (V.int c), some (V.str z0), o8, some (V.str z1), some r3, some (V.ref ht), o12, o13] ∧ Same H15 H') ⟨_, _, _, rfl, fun _ _ z => z⟩ (fun i σ Ha hi hP => ?_) (fun σ Ha hP => ?_)
 ·obtain ⟨o8, o12, o13, rfl, sa⟩ := hP
  have s4a := s415.trans sa
  refine ZaR fun R0 hR0 => ?_
  walk_at "rd"
  refine ⟨_, sa _ _ e15, _, rfl, _, sa _ _ e15, _, rfl, .ref x, d1, b1, rs, od1, kvs, sv2, ss, hf, B * bn, aa, cs, rfl, hJ Ha d1 b1 od1 s4a (sa _ _ ((s14'.trans s15') _ _ e13)) (.inl (sa _ _ (s15' _ _ e14))) (hShB.keep fun b ys e => (sF15.trans sa) _ _ e), let ⟨t, ht⟩ := hTb; ⟨t, (s04.trans s4a) _ _ ht⟩, hbad, fun r Hb g G hg sb er eg hGw hGn hGs hov => ?_⟩
  have s15b := sa.trans sb
  have s4b := s4a.trans sb
  subst hR0
  try dsimp only
  refine ZaR fun R0 hR0 => ?_
  refine ZcK fun A0 hA0 C0 hC0 => ?_
  walk_at "rd"
  refine ⟨"tuple", by simp [ZcF, er], ?_⟩
  rw [if_neg (by decide)]
  refine ⟨_, .inr er, ?_⟩
  rw [if_neg (by simp)]
  refine ⟨_, er, _, rfl, rfl, ?_⟩
  rw [if_neg (by simp)]
  intro pv He hpv se ee
  have s15e := s15b.trans se
  have s4e := s4b.trans se
  have sFe := sF15.trans s15e
  have ebe := sFe _ _ ebF
  have hShe := hShB.keep fun b ys e => sFe _ _ e
  refine ⟨5, .tup (n := 3) (s15e _ _ e15) ee rfl (fun j x y h1 h2 => ?_), by decide, ?_⟩
  ·match j, h1, h2 with
   | 0, h1, h2 => cases h1; cases h2; exact ZhD (.inr ⟨od1, (s14'.trans (s15'.trans s15e)) _ _ e13⟩) (.inr ⟨o, s4e _ _ hd4⟩) hND hHV
   | 1, h1, h2 => cases h1; cases h2; exact Zhw (.inl ((s15'.trans s15e) _ _ e14)) (.inl ebe) hnd hShe
  subst hC0
  walk_at "rd"
  subst hR0
  try dsimp only
  refine ZaR fun R0 hR0 => ?_
  refine ZcK fun A0 hA0 C0 hC0 => ?_
  walk_at "rd"
  have s1e := s14.trans s4e
  refine ⟨_, se _ _ er, _, rfl, p, d, b, g, xs, .ref x, rs, o, kvs, sv2, ss, hf, B * bn, aa, cs, G, rfl, s1e _ _ e1, hR.same s1e, hJ He d b o s4e (s4e _ _ hd4) (.inl ebe) hShe, se _ _ eg, hGw, hGn, hGs, hov, fun Hf sf => ⟨_, rfl, ?_⟩⟩
  rw [if_neg (by decide)]
  subst hC0
  walk_at "rd"
  subst hR0
  walk_at "rd"
  have seg := (se.trans sf) _ _ eg
  exact ⟨_, (se.trans sf) _ _ er, _, rfl, g, rfl, ⟨_, seg⟩, _, seg, by
   rw [List.length_map]
   have := List.Nodup.length_le_of_subset hGn fun z hz => hGs z hz
   omega, Zam (sa.free hg) (s15e.trans sf)⟩
 ·obtain ⟨o8, o12, o13, rfl, sa⟩ := hP
  walk_at "rd"
  exact q _
end
theorem len1 {Pr : List Value → Prop} (us : List Value) (h : us.length = 1) (k : ∀ a, Pr [a]) : Pr us := by
 match us, h with
 | [a], _ => exact k a
theorem Zdd {Pr : List Value → Prop} (us : List Value) (h : us.length = 2) (k : ∀ a b, Pr [a, b]) : Pr us := by
 match us, h with
 | [a, b], _ => exact k a b
theorem ZkR {Pr : List Value → Prop} (us : List Value) (h : us.length = 3) (k : ∀ a b c, Pr [a, b, c]) : Pr us := by
 match us, h with
 | [a, b, c], _ => exact k a b c
theorem len4 {Pr : List Value → Prop} (us : List Value) (h : us.length = 4) (k : ∀ a b c d, Pr [a, b, c, d]) : Pr us := by
 match us, h with
 | [a, b, c, d], _ => exact k a b c d
theorem Za0 {P : Program} {w : World} {K : PySem.W.Frag} {mg : Str → Option Value} {base h : Heap} {k : Nat} {x : Str} {ps : List Str} {sp : Sp} {f : Addr} {fd : FuncData} (X : K.In h) (G : h.Ns mainGlobals mg) (a : PySem.W.nsIn K mainGlobals x = some (some (.ref f)))
  (kp : PySem.W.keepIn K (.ref f) = true) (b : Binds K fd ps []) (o : FnOk P w K mg base CX0 k f fd ps sp) : Fn P w K mg base CX0 k x ps sp := ⟨f, fd, o, b, kp, PySem.W.mg_of X G a⟩
theorem all_mk {l : PySem.W.OpenLaw} {w : World} {K : PySem.W.Frag} {h : Heap} {mg : Str → Option Value} {fa : Addr} {f0 : Addr} {od0 an0 : Option Addr} {sl0 : Array (Option Value)} {oc0 kV0 dc0 pm0 cd0 ct0 : Value} {f1 : Addr} {od1 an1 : Option Addr} {sl1 : Array (Option Value)} {oc1 kV1 dc1 pm1 cd1 ct1 : Value} {f2 : Addr} {od2 an2 : Option Addr} {sl2 : Array (Option Value)} {oc2 kV2 dc2 pm2 cd2 ct2 : Value} {f3 : Addr} {od3 an3 : Option Addr} {sl3 : Array (Option Value)} {oc3 kV3 dc3 pm3 cd3 ct3 : Value} {T3 tn3 : Nat} {tc3 : Value} {td3 : Option Addr} {ts3 : Array (Option Value)} {tk3_0 : Tok} {f6 : Addr} {od6 an6 : Option Addr} {sl6 : Array (Option Value)} {oc6 kV6 dc6 pm6 cd6 ct6 : Value} {f7 : Addr} {od7 an7 : Option Addr} {sl7 : Array (Option Value)} {oc7 kV7 dc7 pm7 cd7 ct7 : Value} {f8 : Addr} {od8 an8 : Option Addr} {sl8 : Array (Option Value)} {oc8 kV8 dc8 pm8 cd8 ct8 : Value} {f9 : Addr} {od9 an9 : Option Addr} {sl9 : Array (Option Value)} {oc9 kV9 dc9 pm9 cd9 ct9 : Value} {f10 : Addr} {od10 an10 : Option Addr} {sl10 : Array (Option Value)} {oc10 kV10 dc10 pm10 cd10 ct10 : Value} {f11 : Addr} {od11 an11 : Option Addr} {sl11 : Array (Option Value)} {oc11 kV11 dc11 pm11 cd11 ct11 : Value} {tk_MOST_ROADS : Tok} {f13 : Addr} {od13 an13 : Option Addr} {sl13 : Array (Option Value)} {oc13 kV13 dc13 pm13 cd13 ct13 : Value} {f14 : Addr} {od14 an14 : Option Addr} {sl14 : Array (Option Value)} {oc14 kV14 dc14 pm14 cd14 ct14 : Value} {cTree : Addr} {f16 : Addr} {od16 an16 : Option Addr} {sl16 : Array (Option Value)} {oc16 kV16 dc16 pm16 cd16 ct16 : Value} {f17 : Addr} {od17 an17 : Option Addr} {sl17 : Array (Option Value)} {oc17 kV17 dc17 pm17 cd17 ct17 : Value} {f18 : Addr} {od18 an18 : Option Addr} {sl18 : Array (Option Value)} {oc18 kV18 dc18 pm18 cd18 ct18 : Value} {f19 : Addr} {od19 an19 : Option Addr} {sl19 : Array (Option Value)} {oc19 kV19 dc19 pm19 cd19 ct19 : Value} {f20 : Addr} {od20 an20 : Option Addr} {sl20 : Array (Option Value)} {oc20 kV20 dc20 pm20 cd20 ct20 : Value} {f21 : Addr} {od21 an21 : Option Addr} {sl21 : Array (Option Value)} {oc21 kV21 dc21 pm21 cd21 ct21 : Value} {f22 : Addr} {od22 an22 : Option Addr} {sl22 : Array (Option Value)} {oc22 kV22 dc22 pm22 cd22 ct22 : Value} {f23 : Addr} {od23 an23 : Option Addr} {sl23 : Array (Option Value)} {oc23 kV23 dc23 pm23 cd23 ct23 : Value} {f24 : Addr} {od24 an24 : Option Addr} {sl24 : Array (Option Value)} {oc24 kV24 dc24 pm24 cd24 ct24 : Value} {f25 : Addr} {od25 an25 : Option Addr} {sl25 : Array (Option Value)} {oc25 kV25 dc25 pm25 cd25 ct25 : Value} {f26 : Addr} {od26 an26 : Option Addr} {sl26 : Array (Option Value)} {oc26 kV26 dc26 pm26 cd26 ct26 : Value} {f27 : Addr} {od27 an27 : Option Addr} {sl27 : Array (Option Value)} {oc27 kV27 dc27 pm27 cd27 ct27 : Value} {f28 : Addr} {od28 an28 : Option Addr} {sl28 : Array (Option Value)} {oc28 kV28 dc28 pm28 cd28 ct28 : Value} {f29 : Addr} {od29 an29 : Option Addr} {sl29 : Array (Option Value)} {oc29 kV29 dc29 pm29 cd29 ct29 : Value} {f30 : Addr} {od30 an30 : Option Addr} {sl30 : Array (Option Value)} {oc30 kV30 dc30 pm30 cd30 ct30 : Value} {f31 : Addr} {od31 an31 : Option Addr} {sl31 : Array (Option Value)} {oc31 kV31 dc31 pm31 cd31 ct31 : Value} {f32 : Addr} {od32 an32 : Option Addr} {sl32 : Array (Option Value)} {oc32 kV32 dc32 pm32 cd32 ct32 : Value} {f33 : Addr} {od33 an33 : Option Addr} {sl33 : Array (Option Value)} {oc33 kV33 dc33 pm33 cd33 ct33 : Value} {f34 : Addr} {od34 an34 : Option Addr} {sl34 : Array (Option Value)} {oc34 kV34 dc34 pm34 cd34 ct34 : Value} {cc34 : Addr} {f35 : Addr} {od35 an35 : Option Addr} {sl35 : Array (Option Value)} {oc35 kV35 dc35 pm35 cd35 ct35 : Value} {f36 : Addr} {od36 an36 : Option Addr} {sl36 : Array (Option Value)} {oc36 kV36 dc36 pm36 cd36 ct36 : Value} {f37 : Addr} {od37 an37 : Option Addr} {sl37 : Array (Option Value)} {oc37 kV37 dc37 pm37 cd37 ct37 : Value} {f38 : Addr} {od38 an38 : Option Addr} {sl38 : Array (Option Value)} {oc38 kV38 dc38 pm38 cd38 ct38 : Value} {f39 : Addr} {od39 an39 : Option Addr} {sl39 : Array (Option Value)} {oc39 kV39 dc39 pm39 cd39 ct39 : Value} {f40 : Addr} {od40 an40 : Option Addr} {sl40 : Array (Option Value)} {oc40 kV40 dc40 pm40 cd40 ct40 : Value} {f41 : Addr} {od41 an41 : Option Addr} {sl41 : Array (Option Value)} {oc41 kV41 dc41 pm41 cd41 ct41 : Value} {f42 : Addr} {od42 an42 : Option Addr} {sl42 : Array (Option Value)} {oc42 kV42 dc42 pm42 cd42 ct42 : Value} {f43 : Addr} {od43 an43 : Option Addr} {sl43 : Array (Option Value)} {oc43 kV43 dc43 pm43 cd43 ct43 : Value} {f44 : Addr} {od44 an44 : Option Addr} {sl44 : Array (Option Value)} {oc44 kV44 dc44 pm44 cd44 ct44 : Value} {f45 : Addr} {od45 an45 : Option Addr} {sl45 : Array (Option Value)} {oc45 kV45 dc45 pm45 cd45 ct45 : Value} {f46 : Addr} {od46 an46 : Option Addr} {sl46 : Array (Option Value)} {oc46 kV46 dc46 pm46 cd46 ct46 : Value} {f47 : Addr} {od47 an47 : Option Addr} {sl47 : Array (Option Value)} {oc47 kV47 dc47 pm47 cd47 ct47 : Value} {f48 : Addr} {od48 an48 : Option Addr} {sl48 : Array (Option Value)} {oc48 kV48 dc48 pm48 cd48 ct48 : Value} {f49 : Addr} {od49 an49 : Option Addr} {sl49 : Array (Option Value)} {oc49 kV49 dc49 pm49 cd49 ct49 : Value}
  (X : K.In h) (G : h.Ns mainGlobals mg) (hfa : mg "law" = some (.ref fa))
  (a0 : PySem.W.nsIn K mainGlobals "is_whole" = some (some (.ref f0)))
  (l0 : K.lookup f0 = some ⟨oc0, od0, .func (PySem.W.fnOf "is_whole" "is_whole" (Zag Zbz) (Zaf Zbz) (Zaa Zbz) .none kV0 dc0 pm0 an0 cd0 ct0), sl0⟩)
  (c0 : PySem.W.codeIn K cd0 "is_whole" = true)
  (k0 : PySem.W.keepIn K (.ref f0) = true)
  (a1 : PySem.W.nsIn K mainGlobals "greatest_divisor" = some (some (.ref f1)))
  (l1 : K.lookup f1 = some ⟨oc1, od1, .func (PySem.W.fnOf "greatest_divisor" "greatest_divisor" (Zag Zaz) (Zaf Zaz) (Zaa Zaz) .none kV1 dc1 pm1 an1 cd1 ct1), sl1⟩)
  (c1 : PySem.W.codeIn K cd1 "greatest_divisor" = true)
  (k1 : PySem.W.keepIn K (.ref f1) = true)
  (a2 : PySem.W.nsIn K mainGlobals "is_ratio" = some (some (.ref f2)))
  (l2 : K.lookup f2 = some ⟨oc2, od2, .func (PySem.W.fnOf "is_ratio" "is_ratio" (Zag ZbB) (Zaf ZbB) (Zaa ZbB) .none kV2 dc2 pm2 an2 cd2 ct2), sl2⟩)
  (c2 : PySem.W.codeIn K cd2 "is_ratio" = true)
  (k2 : PySem.W.keepIn K (.ref f2) = true)
  (a3 : PySem.W.nsIn K mainGlobals "ratio" = some (some (.ref f3)))
  (l3 : K.lookup f3 = some ⟨oc3, od3, .func (PySem.W.fnOf "ratio" "ratio" (Zag Zbp) (Zaf Zbp) (Zaa Zbp) (.ref T3) kV3 dc3 pm3 an3 cd3 ct3), sl3⟩)
  (c3 : PySem.W.codeIn K cd3 "ratio" = true)
  (k3 : PySem.W.keepIn K (.ref f3) = true)
  (t3 : K.lookup T3 = some ⟨tc3, td3, .seq #[.int 1 tk3_0] tn3, ts3⟩)
  (a6 : PySem.W.nsIn K mainGlobals "least_multiple" = some (some (.ref f6)))
  (l6 : K.lookup f6 = some ⟨oc6, od6, .func (PySem.W.fnOf "least_multiple" "least_multiple" (Zag ZaH) (Zaf ZaH) (Zaa ZaH) .none kV6 dc6 pm6 an6 cd6 ct6), sl6⟩)
  (c6 : PySem.W.codeIn K cd6 "least_multiple" = true)
  (k6 : PySem.W.keepIn K (.ref f6) = true)
  (a7 : PySem.W.nsIn K mainGlobals "common_bottom" = some (some (.ref f7)))
  (l7 : K.lookup f7 = some ⟨oc7, od7, .func (PySem.W.fnOf "common_bottom" "common_bottom" (Zag ZaS) (Zaf ZaS) (Zaa ZaS) .none kV7 dc7 pm7 an7 cd7 ct7), sl7⟩)
  (c7 : PySem.W.codeIn K cd7 "common_bottom" = true)
  (k7 : PySem.W.keepIn K (.ref f7) = true)
  (a8 : PySem.W.nsIn K mainGlobals "top_over" = some (some (.ref f8)))
  (l8 : K.lookup f8 = some ⟨oc8, od8, .func (PySem.W.fnOf "top_over" "top_over" (Zag Zbw) (Zaf Zbw) (Zaa Zbw) .none kV8 dc8 pm8 an8 cd8 ct8), sl8⟩)
  (c8 : PySem.W.codeIn K cd8 "top_over" = true)
  (k8 : PySem.W.keepIn K (.ref f8) = true)
  (a9 : PySem.W.nsIn K mainGlobals "total_of" = some (some (.ref f9)))
  (l9 : K.lookup f9 = some ⟨oc9, od9, .func (PySem.W.fnOf "total_of" "total_of" (Zag ZbF) (Zaf ZbF) (Zaa ZbF) .none kV9 dc9 pm9 an9 cd9 ct9), sl9⟩)
  (c9 : PySem.W.codeIn K cd9 "total_of" = true)
  (k9 : PySem.W.keepIn K (.ref f9) = true)
  (a10 : PySem.W.nsIn K mainGlobals "is_price" = some (some (.ref f10)))
  (l10 : K.lookup f10 = some ⟨oc10, od10, .func (PySem.W.fnOf "is_price" "is_price" (Zag Zbx) (Zaf Zbx) (Zaa Zbx) .none kV10 dc10 pm10 an10 cd10 ct10), sl10⟩)
  (c10 : PySem.W.codeIn K cd10 "is_price" = true)
  (k10 : PySem.W.keepIn K (.ref f10) = true)
  (a11 : PySem.W.nsIn K mainGlobals "is_road" = some (some (.ref f11)))
  (l11 : K.lookup f11 = some ⟨oc11, od11, .func (PySem.W.fnOf "is_road" "is_road" (Zag ZbX) (Zaf ZbX) (Zaa ZbX) .none kV11 dc11 pm11 an11 cd11 ct11), sl11⟩)
  (c11 : PySem.W.codeIn K cd11 "is_road" = true)
  (k11 : PySem.W.keepIn K (.ref f11) = true)
  (a_MOST_ROADS : PySem.W.nsIn K mainGlobals "MOST_ROADS" = some (some (.int 40 tk_MOST_ROADS)))
  (a13 : PySem.W.nsIn K mainGlobals "look_roads" = some (some (.ref f13)))
  (l13 : K.lookup f13 = some ⟨oc13, od13, .func (PySem.W.fnOf "look_roads" "look_roads" (Zag Zbc) (Zaf Zbc) (Zaa Zbc) .none kV13 dc13 pm13 an13 cd13 ct13), sl13⟩)
  (c13 : PySem.W.codeIn K cd13 "look_roads" = true)
  (k13 : PySem.W.keepIn K (.ref f13) = true)
  (a14 : PySem.W.nsIn K mainGlobals "way_from" = some (some (.ref f14)))
  (l14 : K.lookup f14 = some ⟨oc14, od14, .func (PySem.W.fnOf "way_from" "way_from" (Zag ZbA) (Zaf ZbA) (Zaa ZbA) .none kV14 dc14 pm14 an14 cd14 ct14), sl14⟩)
  (c14 : PySem.W.codeIn K cd14 "way_from" = true)
  (k14 : PySem.W.keepIn K (.ref f14) = true)
  (a_Tree : PySem.W.nsIn K mainGlobals "Tree" = some (some (.ref cTree)))
  (pg_Tree : PySem.W.plainGet K cTree Str.empty = true)
  (hd_Tree : PySem.W.hasDictIn K cTree = true)
  (po_Tree : PySem.W.plainOver K cTree = true)
  (sa_Tree : PySem.W.findIn K (.ref cTree) "__setattr__" = some (some (.builtin "object.__setattr__")))
  (nf_lanes : PySem.W.findIn K (.ref cTree) "lanes" = some none)
  (nf_ways : PySem.W.findIn K (.ref cTree) "ways" = some none)
  (a16 : PySem.W.findIn K (.ref cTree) "__init__" = some (some (.ref f16)))
  (l16 : K.lookup f16 = some ⟨oc16, od16, .func (PySem.W.fnOf "__init__" "Tree.__init__" (Zag Zau) (Zaf Zau) (Zaa Zau) .none kV16 dc16 pm16 an16 cd16 ct16), sl16⟩)
  (c16 : PySem.W.codeIn K cd16 "Tree.__init__" = true)
  (k16 : PySem.W.keepIn K (.ref f16) = true)
  (i16 : PySem.W.isFn K (.ref f16) = true)
  (mk16 : PySem.W.makesIn K cTree = true)
  (kc16 : PySem.W.keepIn K (.ref cTree) = true)
  (a17 : PySem.W.findIn K (.ref cTree) "many" = some (some (.ref f17)))
  (l17 : K.lookup f17 = some ⟨oc17, od17, .func (PySem.W.fnOf "many" "Tree.many" (Zag ZaT) (Zaf ZaT) (Zaa ZaT) .none kV17 dc17 pm17 an17 cd17 ct17), sl17⟩)
  (c17 : PySem.W.codeIn K cd17 "Tree.many" = true)
  (k17 : PySem.W.keepIn K (.ref f17) = true)
  (i17 : PySem.W.isFn K (.ref f17) = true)
  (a18 : PySem.W.findIn K (.ref cTree) "look_crossing" = some (some (.ref f18)))
  (l18 : K.lookup f18 = some ⟨oc18, od18, .func (PySem.W.fnOf "look_crossing" "Tree.look_crossing" (Zag Zal) (Zaf Zal) (Zaa Zal) .none kV18 dc18 pm18 an18 cd18 ct18), sl18⟩)
  (c18 : PySem.W.codeIn K cd18 "Tree.look_crossing" = true)
  (k18 : PySem.W.keepIn K (.ref f18) = true)
  (i18 : PySem.W.isFn K (.ref f18) = true)
  (a19 : PySem.W.findIn K (.ref cTree) "look_road" = some (some (.ref f19)))
  (l19 : K.lookup f19 = some ⟨oc19, od19, .func (PySem.W.fnOf "look_road" "Tree.look_road" (Zag Zas) (Zaf Zas) (Zaa Zas) .none kV19 dc19 pm19 an19 cd19 ct19), sl19⟩)
  (c19 : PySem.W.codeIn K cd19 "Tree.look_road" = true)
  (k19 : PySem.W.keepIn K (.ref f19) = true)
  (i19 : PySem.W.isFn K (.ref f19) = true)
  (a20 : PySem.W.findIn K (.ref cTree) "way" = some (some (.ref f20)))
  (l20 : K.lookup f20 = some ⟨oc20, od20, .func (PySem.W.fnOf "way" "Tree.way" (Zag Za2) (Zaf Za2) (Zaa Za2) .none kV20 dc20 pm20 an20 cd20 ct20), sl20⟩)
  (c20 : PySem.W.codeIn K cd20 "Tree.way" = true)
  (k20 : PySem.W.keepIn K (.ref f20) = true)
  (i20 : PySem.W.isFn K (.ref f20) = true)
  (a21 : PySem.W.findIn K (.ref cTree) "beneath" = some (some (.ref f21)))
  (l21 : K.lookup f21 = some ⟨oc21, od21, .func (PySem.W.fnOf "beneath" "Tree.beneath" (Zag Zaw) (Zaf Zaw) (Zaa Zaw) .none kV21 dc21 pm21 an21 cd21 ct21), sl21⟩)
  (c21 : PySem.W.codeIn K cd21 "Tree.beneath" = true)
  (k21 : PySem.W.keepIn K (.ref f21) = true)
  (i21 : PySem.W.isFn K (.ref f21) = true)
  (a22 : PySem.W.findIn K (.ref cTree) "price" = some (some (.ref f22)))
  (l22 : K.lookup f22 = some ⟨oc22, od22, .func (PySem.W.fnOf "price" "Tree.price" (Zag ZaI) (Zaf ZaI) (Zaa ZaI) .none kV22 dc22 pm22 an22 cd22 ct22), sl22⟩)
  (c22 : PySem.W.codeIn K cd22 "Tree.price" = true)
  (k22 : PySem.W.keepIn K (.ref f22) = true)
  (i22 : PySem.W.isFn K (.ref f22) = true)
  (a23 : PySem.W.nsIn K mainGlobals "rest_of" = some (some (.ref f23)))
  (l23 : K.lookup f23 = some ⟨oc23, od23, .func (PySem.W.fnOf "rest_of" "rest_of" (Zag ZbV) (Zaf ZbV) (Zaa ZbV) .none kV23 dc23 pm23 an23 cd23 ct23), sl23⟩)
  (c23 : PySem.W.codeIn K cd23 "rest_of" = true)
  (k23 : PySem.W.keepIn K (.ref f23) = true)
  (a24 : PySem.W.nsIn K mainGlobals "needed" = some (some (.ref f24)))
  (l24 : K.lookup f24 = some ⟨oc24, od24, .func (PySem.W.fnOf "needed" "needed" (Zag Zcm) (Zaf Zcm) (Zaa Zcm) .none kV24 dc24 pm24 an24 cd24 ct24), sl24⟩)
  (c24 : PySem.W.codeIn K cd24 "needed" = true)
  (k24 : PySem.W.keepIn K (.ref f24) = true)
  (a25 : PySem.W.nsIn K mainGlobals "cost" = some (some (.ref f25)))
  (l25 : K.lookup f25 = some ⟨oc25, od25, .func (PySem.W.fnOf "cost" "cost" (Zag Zer) (Zaf Zer) (Zaa Zer) .none kV25 dc25 pm25 an25 cd25 ct25), sl25⟩)
  (c25 : PySem.W.codeIn K cd25 "cost" = true)
  (k25 : PySem.W.keepIn K (.ref f25) = true)
  (a26 : PySem.W.nsIn K mainGlobals "_law_cell_at" = some (some (.ref f26)))
  (l26 : K.lookup f26 = some ⟨oc26, od26, .func (PySem.W.fnOf "_law_cell_at" "_law_cell_at" (Zag Za1) (Zaf Za1) (Zaa Za1) .none kV26 dc26 pm26 an26 cd26 ct26), sl26⟩)
  (c26 : PySem.W.codeIn K cd26 "_law_cell_at" = true)
  (k26 : PySem.W.keepIn K (.ref f26) = true)
  (a27 : PySem.W.nsIn K mainGlobals "_law_mixed" = some (some (.ref f27)))
  (l27 : K.lookup f27 = some ⟨oc27, od27, .func (PySem.W.fnOf "_law_mixed" "_law_mixed" (Zag Zbj) (Zaf Zbj) (Zaa Zbj) .none kV27 dc27 pm27 an27 cd27 ct27), sl27⟩)
  (c27 : PySem.W.codeIn K cd27 "_law_mixed" = true)
  (k27 : PySem.W.keepIn K (.ref f27) = true)
  (a28 : PySem.W.nsIn K mainGlobals "_law_numbers" = some (some (.ref f28)))
  (l28 : K.lookup f28 = some ⟨oc28, od28, .func (PySem.W.fnOf "_law_numbers" "_law_numbers" (Zag Za4) (Zaf Za4) (Zaa Za4) .none kV28 dc28 pm28 an28 cd28 ct28), sl28⟩)
  (c28 : PySem.W.codeIn K cd28 "_law_numbers" = true)
  (k28 : PySem.W.keepIn K (.ref f28) = true)
  (a29 : PySem.W.nsIn K mainGlobals "_law_low" = some (some (.ref f29)))
  (l29 : K.lookup f29 = some ⟨oc29, od29, .func (PySem.W.fnOf "_law_low" "_law_low" (Zag Zb1) (Zaf Zb1) (Zaa Zb1) .none kV29 dc29 pm29 an29 cd29 ct29), sl29⟩)
  (c29 : PySem.W.codeIn K cd29 "_law_low" = true)
  (k29 : PySem.W.keepIn K (.ref f29) = true)
  (a30 : PySem.W.nsIn K mainGlobals "_law_price_by" = some (some (.ref f30)))
  (l30 : K.lookup f30 = some ⟨oc30, od30, .func (PySem.W.fnOf "_law_price_by" "_law_price_by" (Zag ZaV) (Zaf ZaV) (Zaa ZaV) .none kV30 dc30 pm30 an30 cd30 ct30), sl30⟩)
  (c30 : PySem.W.codeIn K cd30 "_law_price_by" = true)
  (k30 : PySem.W.keepIn K (.ref f30) = true)
  (a31 : PySem.W.nsIn K mainGlobals "_law_roads_by" = some (some (.ref f31)))
  (l31 : K.lookup f31 = some ⟨oc31, od31, .func (PySem.W.fnOf "_law_roads_by" "_law_roads_by" (Zag Zat) (Zaf Zat) (Zaa Zat) .none kV31 dc31 pm31 an31 cd31 ct31), sl31⟩)
  (c31 : PySem.W.codeIn K cd31 "_law_roads_by" = true)
  (k31 : PySem.W.keepIn K (.ref f31) = true)
  (a32 : PySem.W.nsIn K mainGlobals "_law_names_by" = some (some (.ref f32)))
  (l32 : K.lookup f32 = some ⟨oc32, od32, .func (PySem.W.fnOf "_law_names_by" "_law_names_by" (Zag ZaW) (Zaf ZaW) (Zaa ZaW) .none kV32 dc32 pm32 an32 cd32 ct32), sl32⟩)
  (c32 : PySem.W.codeIn K cd32 "_law_names_by" = true)
  (k32 : PySem.W.keepIn K (.ref f32) = true)
  (a33 : PySem.W.nsIn K mainGlobals "_law_homes_by" = some (some (.ref f33)))
  (l33 : K.lookup f33 = some ⟨oc33, od33, .func (PySem.W.fnOf "_law_homes_by" "_law_homes_by" (Zag ZaX) (Zaf ZaX) (Zaa ZaX) .none kV33 dc33 pm33 an33 cd33 ct33), sl33⟩)
  (c33 : PySem.W.codeIn K cd33 "_law_homes_by" = true)
  (k33 : PySem.W.keepIn K (.ref f33) = true)
  (a34 : PySem.W.nsIn K mainGlobals "far_roads_first" = some (some (.ref f34)))
  (l34 : K.lookup f34 = some ⟨oc34, od34, .func (PySem.W.fnOf "far_roads_first" "far_roads_first" (Zag ZaC) (Zaf ZaC) (Zaa ZaC) .none kV34 dc34 pm34 an34 cd34 ct34), sl34⟩)
  (c34 : PySem.W.codeIn K cd34 "far_roads_first" = true)
  (k34 : PySem.W.keepIn K (.ref f34) = true)
  (hcd34 : cd34 = .ref cc34)
  (hC34 : PySem.W.codeHdIn K cc34 160 = true)
  (a35 : PySem.W.nsIn K mainGlobals "is_less" = some (some (.ref f35)))
  (l35 : K.lookup f35 = some ⟨oc35, od35, .func (PySem.W.fnOf "is_less" "is_less" (Zag ZbU) (Zaf ZbU) (Zaa ZbU) .none kV35 dc35 pm35 an35 cd35 ct35), sl35⟩)
  (c35 : PySem.W.codeIn K cd35 "is_less" = true)
  (k35 : PySem.W.keepIn K (.ref f35) = true)
  (a36 : PySem.W.nsIn K mainGlobals "cost_of_all" = some (some (.ref f36)))
  (l36 : K.lookup f36 = some ⟨oc36, od36, .func (PySem.W.fnOf "cost_of_all" "cost_of_all" (Zag Za3) (Zaf Za3) (Zaa Za3) .none kV36 dc36 pm36 an36 cd36 ct36), sl36⟩)
  (c36 : PySem.W.codeIn K cd36 "cost_of_all" = true)
  (k36 : PySem.W.keepIn K (.ref f36) = true)
  (a37 : PySem.W.nsIn K mainGlobals "users" = some (some (.ref f37)))
  (l37 : K.lookup f37 = some ⟨oc37, od37, .func (PySem.W.fnOf "users" "users" (Zag Zc4) (Zaf Zc4) (Zaa Zc4) .none kV37 dc37 pm37 an37 cd37 ct37), sl37⟩)
  (c37 : PySem.W.codeIn K cd37 "users" = true)
  (k37 : PySem.W.keepIn K (.ref f37) = true)
  (a38 : PySem.W.nsIn K mainGlobals "others" = some (some (.ref f38)))
  (l38 : K.lookup f38 = some ⟨oc38, od38, .func (PySem.W.fnOf "others" "others" (Zag Zcr) (Zaf Zcr) (Zaa Zcr) .none kV38 dc38 pm38 an38 cd38 ct38), sl38⟩)
  (c38 : PySem.W.codeIn K cd38 "others" = true)
  (k38 : PySem.W.keepIn K (.ref f38) = true)
  (a39 : PySem.W.nsIn K mainGlobals "payments" = some (some (.ref f39)))
  (l39 : K.lookup f39 = some ⟨oc39, od39, .func (PySem.W.fnOf "payments" "payments" (Zag Zby) (Zaf Zby) (Zaa Zby) .none kV39 dc39 pm39 an39 cd39 ct39), sl39⟩)
  (c39 : PySem.W.codeIn K cd39 "payments" = true)
  (k39 : PySem.W.keepIn K (.ref f39) = true)
  (a40 : PySem.W.nsIn K mainGlobals "look_sharing" = some (some (.ref f40)))
  (l40 : K.lookup f40 = some ⟨oc40, od40, .func (PySem.W.fnOf "look_sharing" "look_sharing" (Zag ZaZ) (Zaf ZaZ) (Zaa ZaZ) .none kV40 dc40 pm40 an40 cd40 ct40), sl40⟩)
  (c40 : PySem.W.codeIn K cd40 "look_sharing" = true)
  (k40 : PySem.W.keepIn K (.ref f40) = true)
  (a41 : PySem.W.nsIn K mainGlobals "judged" = some (some (.ref f41)))
  (l41 : K.lookup f41 = some ⟨oc41, od41, .func (PySem.W.fnOf "judged" "judged" (Zag Zco) (Zaf Zco) (Zaa Zco) .none kV41 dc41 pm41 an41 cd41 ct41), sl41⟩)
  (c41 : PySem.W.codeIn K cd41 "judged" = true)
  (k41 : PySem.W.keepIn K (.ref f41) = true)
  (a42 : PySem.W.nsIn K mainGlobals "_law_way" = some (some (.ref f42)))
  (l42 : K.lookup f42 = some ⟨oc42, od42, .func (PySem.W.fnOf "_law_way" "_law_way" (Zag Zb3) (Zaf Zb3) (Zaa Zb3) .none kV42 dc42 pm42 an42 cd42 ct42), sl42⟩)
  (c42 : PySem.W.codeIn K cd42 "_law_way" = true)
  (k42 : PySem.W.keepIn K (.ref f42) = true)
  (a43 : PySem.W.nsIn K mainGlobals "_law_add" = some (some (.ref f43)))
  (l43 : K.lookup f43 = some ⟨oc43, od43, .func (PySem.W.fnOf "_law_add" "_law_add" (Zag ZbY) (Zaf ZbY) (Zaa ZbY) .none kV43 dc43 pm43 an43 cd43 ct43), sl43⟩)
  (c43 : PySem.W.codeIn K cd43 "_law_add" = true)
  (k43 : PySem.W.keepIn K (.ref f43) = true)
  (a44 : PySem.W.nsIn K mainGlobals "_law_less" = some (some (.ref f44)))
  (l44 : K.lookup f44 = some ⟨oc44, od44, .func (PySem.W.fnOf "_law_less" "_law_less" (Zag ZbC) (Zaf ZbC) (Zaa ZbC) .none kV44 dc44 pm44 an44 cd44 ct44), sl44⟩)
  (c44 : PySem.W.codeIn K cd44 "_law_less" = true)
  (k44 : PySem.W.keepIn K (.ref f44) = true)
  (a45 : PySem.W.nsIn K mainGlobals "_law_total" = some (some (.ref f45)))
  (l45 : K.lookup f45 = some ⟨oc45, od45, .func (PySem.W.fnOf "_law_total" "_law_total" (Zag Zbk) (Zaf Zbk) (Zaa Zbk) .none kV45 dc45 pm45 an45 cd45 ct45), sl45⟩)
  (c45 : PySem.W.codeIn K cd45 "_law_total" = true)
  (k45 : PySem.W.keepIn K (.ref f45) = true)
  (a46 : PySem.W.nsIn K mainGlobals "_law_cost" = some (some (.ref f46)))
  (l46 : K.lookup f46 = some ⟨oc46, od46, .func (PySem.W.fnOf "_law_cost" "_law_cost" (Zag ZbD) (Zaf ZbD) (Zaa ZbD) .none kV46 dc46 pm46 an46 cd46 ct46), sl46⟩)
  (c46 : PySem.W.codeIn K cd46 "_law_cost" = true)
  (k46 : PySem.W.keepIn K (.ref f46) = true)
  (a47 : PySem.W.nsIn K mainGlobals "_law_shared_by" = some (some (.ref f47)))
  (l47 : K.lookup f47 = some ⟨oc47, od47, .func (PySem.W.fnOf "_law_shared_by" "_law_shared_by" (Zag ZaQ) (Zaf ZaQ) (Zaa ZaQ) .none kV47 dc47 pm47 an47 cd47 ct47), sl47⟩)
  (c47 : PySem.W.codeIn K cd47 "_law_shared_by" = true)
  (k47 : PySem.W.keepIn K (.ref f47) = true)
  (a48 : PySem.W.nsIn K mainGlobals "_law_group_holds" = some (some (.ref f48)))
  (l48 : K.lookup f48 = some ⟨oc48, od48, .func (PySem.W.fnOf "_law_group_holds" "_law_group_holds" (Zag ZaD) (Zaf ZaD) (Zaa ZaD) .none kV48 dc48 pm48 an48 cd48 ct48), sl48⟩)
  (c48 : PySem.W.codeIn K cd48 "_law_group_holds" = true)
  (k48 : PySem.W.keepIn K (.ref f48) = true)
  (a49 : PySem.W.nsIn K mainGlobals "law" = some (some (.ref f49)))
  (l49 : K.lookup f49 = some ⟨oc49, od49, .func (PySem.W.fnOf "law" "law" (Zag ZeX) (Zaf ZeX) (Zaa ZeX) .none kV49 dc49 pm49 an49 cd49 ct49), sl49⟩)
  (c49 : PySem.W.codeIn K cd49 "law" = true)
  (k49 : PySem.W.keepIn K (.ref f49) = true)
  (z_isinstance : PySem.W.nsIn K mainGlobals "isinstance" = some none)
  (z_int : PySem.W.nsIn K mainGlobals "int" = some none)
  (z_bool : PySem.W.nsIn K mainGlobals "bool" = some none)
  (z_abs : PySem.W.nsIn K mainGlobals "abs" = some none)
  (z_tuple : PySem.W.nsIn K mainGlobals "tuple" = some none)
  (z_len : PySem.W.nsIn K mainGlobals "len" = some none)
  (z_sum : PySem.W.nsIn K mainGlobals "sum" = some none)
  (z_list : PySem.W.nsIn K mainGlobals "list" = some none)
  (z_range : PySem.W.nsIn K mainGlobals "range" = some none)
  (z_sorted : PySem.W.nsIn K mainGlobals "sorted" = some none)
  (z_set : PySem.W.nsIn K mainGlobals "set" = some none)
  (z_enumerate : PySem.W.nsIn K mainGlobals "enumerate" = some none)
  (z_min : PySem.W.nsIn K mainGlobals "min" = some none)
  (z_zip : PySem.W.nsIn K mainGlobals "zip" = some none)
  (z_dict : PySem.W.nsIn K mainGlobals "dict" = some none)
  (z_max : PySem.W.nsIn K mainGlobals "max" = some none)
  (z_str : PySem.W.nsIn K mainGlobals "str" = some none)
  : ∃ fd : FuncData, (∀ (s : Shared) (v : Value), BindsTo s fd ⟨[v], []⟩ [("_law_script", v)]) ∧ ∀ base : Heap, K.In base → base.Ns mainGlobals mg → L2.ZdF mg base → FnOk l.prog w K mg base CX0 10 fa fd ["_law_script"] (ZjS 160 K) := by
 have e := hfa.symm.trans (PySem.W.mg_of X G a49)
 cases e
 have n_str := PySem.W.mg_none_of X G z_str
 have n_max := PySem.W.mg_none_of X G z_max
 have n_dict := PySem.W.mg_none_of X G z_dict
 have n_zip := PySem.W.mg_none_of X G z_zip
 have n_min := PySem.W.mg_none_of X G z_min
 have n_enumerate := PySem.W.mg_none_of X G z_enumerate
 have n_set := PySem.W.mg_none_of X G z_set
 have n_sorted := PySem.W.mg_none_of X G z_sorted
 have n_range := PySem.W.mg_none_of X G z_range
 have n_list := PySem.W.mg_none_of X G z_list
 have n_sum := PySem.W.mg_none_of X G z_sum
 have n_len := PySem.W.mg_none_of X G z_len
 have n_tuple := PySem.W.mg_none_of X G z_tuple
 have n_abs := PySem.W.mg_none_of X G z_abs
 have n_bool := PySem.W.mg_none_of X G z_bool
 have n_int := PySem.W.mg_none_of X G z_int
 have n_isinstance := PySem.W.mg_none_of X G z_isinstance
 have U0 := Zaq (st := Zbz) l0 c0 k0
 have b0 := U0.binds (ps := ["thing"]) fun _ _ _ _ _ _ us hl => len1 (Pr := fun us => bindArgs _ ⟨us, []⟩ = pure (List.zip _ us)) us hl fun _ => rfl
 have U1 := Zaq (st := Zaz) l1 c1 k1
 have b1 := U1.binds (ps := ["one", "other"]) fun _ _ _ _ _ _ us hl => Zdd (Pr := fun us => bindArgs _ ⟨us, []⟩ = pure (List.zip _ us)) us hl fun _ _ => rfl
 have U2 := Zaq (st := ZbB) l2 c2 k2
 have b2 := U2.binds (ps := ["thing"]) fun _ _ _ _ _ _ us hl => len1 (Pr := fun us => bindArgs _ ⟨us, []⟩ = pure (List.zip _ us)) us hl fun _ => rfl
 have U3 := fund_mk (st := Zbp) l3 c3 k3
 have b3 : Binds K (PySem.W.fnOf "ratio" "ratio" (Zag Zbp) (Zaf Zbp) (Zaa Zbp) (.ref T3) kV3 dc3 pm3 an3 cd3 ct3) ["top", "bottom"] [] := fun s us Y hl => match us, hl with | [_, _], _ => BindsTo.of_defaults (T := T3) rfl (Y _ _ t3) rfl rfl rfl
 have b3_1 : Binds K (PySem.W.fnOf "ratio" "ratio" (Zag Zbp) (Zaf Zbp) (Zaa Zbp) (.ref T3) kV3 dc3 pm3 an3 cd3 ct3) ["top", "bottom"] [.int 1 tk3_0] := fun s us Y hl => by
  have hl2 : us.length = 1 := by simpa using hl
  exact match us, hl2 with | [_], _ => BindsTo.of_defaults (T := T3) rfl (Y _ _ t3) rfl rfl rfl
 have U6 := Zaq (st := ZaH) l6 c6 k6
 have b6 := U6.binds (ps := ["one", "other"]) fun _ _ _ _ _ _ us hl => Zdd (Pr := fun us => bindArgs _ ⟨us, []⟩ = pure (List.zip _ us)) us hl fun _ _ => rfl
 have U7 := Zaq (st := ZaS) l7 c7 k7
 have b7 := U7.binds (ps := ["some"]) fun _ _ _ _ _ _ us hl => len1 (Pr := fun us => bindArgs _ ⟨us, []⟩ = pure (List.zip _ us)) us hl fun _ => rfl
 have U8 := Zaq (st := Zbw) l8 c8 k8
 have b8 := U8.binds (ps := ["one", "bottom"]) fun _ _ _ _ _ _ us hl => Zdd (Pr := fun us => bindArgs _ ⟨us, []⟩ = pure (List.zip _ us)) us hl fun _ _ => rfl
 have U9 := Zaq (st := ZbF) l9 c9 k9
 have b9 := U9.binds (ps := ["some"]) fun _ _ _ _ _ _ us hl => len1 (Pr := fun us => bindArgs _ ⟨us, []⟩ = pure (List.zip _ us)) us hl fun _ => rfl
 have U10 := Zaq (st := Zbx) l10 c10 k10
 have b10 := U10.binds (ps := ["thing"]) fun _ _ _ _ _ _ us hl => len1 (Pr := fun us => bindArgs _ ⟨us, []⟩ = pure (List.zip _ us)) us hl fun _ => rfl
 have U11 := Zaq (st := ZbX) l11 c11 k11
 have b11 := U11.binds (ps := ["thing", "many"]) fun _ _ _ _ _ _ us hl => Zdd (Pr := fun us => bindArgs _ ⟨us, []⟩ = pure (List.zip _ us)) us hl fun _ _ => rfl
 have g_MOST_ROADS := PySem.W.mg_of X G a_MOST_ROADS
 have U13 := Zaq (st := Zbc) l13 c13 k13
 have b13 := U13.binds (ps := ["thing"]) fun _ _ _ _ _ _ us hl => len1 (Pr := fun us => bindArgs _ ⟨us, []⟩ = pure (List.zip _ us)) us hl fun _ => rfl
 have U14 := Zaq (st := ZbA) l14 c14 k14
 have b14 := U14.binds (ps := ["roads", "k"]) fun _ _ _ _ _ _ us hl => Zdd (Pr := fun us => bindArgs _ ⟨us, []⟩ = pure (List.zip _ us)) us hl fun _ _ => rfl
 have m_Tree := PySem.W.mg_of X G a_Tree
 have cls_Tree : Cls K cTree := ⟨pg_Tree, hd_Tree, po_Tree, sa_Tree⟩
 have U16 := Zaq (st := Zau) l16 c16 k16
 have b16 : Binds K (PySem.W.fnOf "__init__" "Tree.__init__" (Zag Zau) (Zaf Zau) (Zaa Zau) .none kV16 dc16 pm16 an16 cd16 ct16) ["self", "roads"] [] := Binds.all fun us hl => Zdd (Pr := fun us => bindArgs _ ⟨us, []⟩ = pure (List.zip _ us)) us hl fun _ _ => rfl
 have U17 := Zaq (st := ZaT) l17 c17 k17
 have b17 : Binds K (PySem.W.fnOf "many" "Tree.many" (Zag ZaT) (Zaf ZaT) (Zaa ZaT) .none kV17 dc17 pm17 an17 cd17 ct17) ["self"] [] := Binds.all fun us hl => len1 (Pr := fun us => bindArgs _ ⟨us, []⟩ = pure (List.zip _ us)) us hl fun _ => rfl
 have U18 := Zaq (st := Zal) l18 c18 k18
 have b18 : Binds K (PySem.W.fnOf "look_crossing" "Tree.look_crossing" (Zag Zal) (Zaf Zal) (Zaa Zal) .none kV18 dc18 pm18 an18 cd18 ct18) ["self", "k"] [] := Binds.all fun us hl => Zdd (Pr := fun us => bindArgs _ ⟨us, []⟩ = pure (List.zip _ us)) us hl fun _ _ => rfl
 have U19 := Zaq (st := Zas) l19 c19 k19
 have b19 : Binds K (PySem.W.fnOf "look_road" "Tree.look_road" (Zag Zas) (Zaf Zas) (Zaa Zas) .none kV19 dc19 pm19 an19 cd19 ct19) ["self", "k"] [] := Binds.all fun us hl => Zdd (Pr := fun us => bindArgs _ ⟨us, []⟩ = pure (List.zip _ us)) us hl fun _ _ => rfl
 have U20 := Zaq (st := Za2) l20 c20 k20
 have b20 : Binds K (PySem.W.fnOf "way" "Tree.way" (Zag Za2) (Zaf Za2) (Zaa Za2) .none kV20 dc20 pm20 an20 cd20 ct20) ["self", "k"] [] := Binds.all fun us hl => Zdd (Pr := fun us => bindArgs _ ⟨us, []⟩ = pure (List.zip _ us)) us hl fun _ _ => rfl
 have U21 := Zaq (st := Zaw) l21 c21 k21
 have b21 : Binds K (PySem.W.fnOf "beneath" "Tree.beneath" (Zag Zaw) (Zaf Zaw) (Zaa Zaw) .none kV21 dc21 pm21 an21 cd21 ct21) ["self", "k"] [] := Binds.all fun us hl => Zdd (Pr := fun us => bindArgs _ ⟨us, []⟩ = pure (List.zip _ us)) us hl fun _ _ => rfl
 have U22 := Zaq (st := ZaI) l22 c22 k22
 have b22 : Binds K (PySem.W.fnOf "price" "Tree.price" (Zag ZaI) (Zaf ZaI) (Zaa ZaI) .none kV22 dc22 pm22 an22 cd22 ct22) ["self", "k"] [] := Binds.all fun us hl => Zdd (Pr := fun us => bindArgs _ ⟨us, []⟩ = pure (List.zip _ us)) us hl fun _ _ => rfl
 have U23 := Zaq (st := ZbV) l23 c23 k23
 have b23 := U23.binds (ps := ["one", "other"]) fun _ _ _ _ _ _ us hl => Zdd (Pr := fun us => bindArgs _ ⟨us, []⟩ = pure (List.zip _ us)) us hl fun _ _ => rfl
 have U24 := Zaq (st := Zcm) l24 c24 k24
 have b24 := U24.binds (ps := ["tree", "homes", "group"]) fun _ _ _ _ _ _ us hl => ZkR (Pr := fun us => bindArgs _ ⟨us, []⟩ = pure (List.zip _ us)) us hl fun _ _ _ => rfl
 have U25 := Zaq (st := Zer) l25 c25 k25
 have b25 := U25.binds (ps := ["tree", "homes", "group"]) fun _ _ _ _ _ _ us hl => ZkR (Pr := fun us => bindArgs _ ⟨us, []⟩ = pure (List.zip _ us)) us hl fun _ _ _ => rfl
 have U26 := Zaq (st := Za1) l26 c26 k26
 have b26 := U26.binds (ps := ["_law_script", "_law_k"]) fun _ _ _ _ _ _ us hl => Zdd (Pr := fun us => bindArgs _ ⟨us, []⟩ = pure (List.zip _ us)) us hl fun _ _ => rfl
 have U27 := Zaq (st := Zbj) l27 c27 k27
 have b27 := U27.binds (ps := ["_law_cell", "_law_k"]) fun _ _ _ _ _ _ us hl => Zdd (Pr := fun us => bindArgs _ ⟨us, []⟩ = pure (List.zip _ us)) us hl fun _ _ => rfl
 have U28 := Zaq (st := Za4) l28 c28 k28
 have b28 := U28.binds (ps := ["_law_cell", "_law_many", "_law_most"]) fun _ _ _ _ _ _ us hl => ZkR (Pr := fun us => bindArgs _ ⟨us, []⟩ = pure (List.zip _ us)) us hl fun _ _ _ => rfl
 have U29 := Zaq (st := Zb1) l29 c29 k29
 have b29 := U29.binds (ps := ["_law_top", "_law_bottom"]) fun _ _ _ _ _ _ us hl => Zdd (Pr := fun us => bindArgs _ ⟨us, []⟩ = pure (List.zip _ us)) us hl fun _ _ => rfl
 have U30 := Zaq (st := ZaV) l30 c30 k30
 have b30 := U30.binds (ps := ["_law_number", "_law_wide"]) fun _ _ _ _ _ _ us hl => Zdd (Pr := fun us => bindArgs _ ⟨us, []⟩ = pure (List.zip _ us)) us hl fun _ _ => rfl
 have U31 := Zaq (st := Zat) l31 c31 k31
 have b31 := U31.binds (ps := ["_law_script", "_law_most"]) fun _ _ _ _ _ _ us hl => Zdd (Pr := fun us => bindArgs _ ⟨us, []⟩ = pure (List.zip _ us)) us hl fun _ _ => rfl
 have U32 := Zaq (st := ZaW) l32 c32 k32
 have b32 := U32.binds (ps := ["_law_cell", "_law_many"]) fun _ _ _ _ _ _ us hl => Zdd (Pr := fun us => bindArgs _ ⟨us, []⟩ = pure (List.zip _ us)) us hl fun _ _ => rfl
 have U33 := Zaq (st := ZaX) l33 c33 k33
 have b33 := U33.binds (ps := ["_law_script", "_law_many"]) fun _ _ _ _ _ _ us hl => Zdd (Pr := fun us => bindArgs _ ⟨us, []⟩ = pure (List.zip _ us)) us hl fun _ _ => rfl
 have U34 := Zaq (st := ZaC) l34 c34 k34
 have b34 := U34.binds (ps := ["tree", "homes"]) fun _ _ _ _ _ _ us hl => Zdd (Pr := fun us => bindArgs _ ⟨us, []⟩ = pure (List.zip _ us)) us hl fun _ _ => rfl
 have U35 := Zaq (st := ZbU) l35 c35 k35
 have b35 := U35.binds (ps := ["one", "other"]) fun _ _ _ _ _ _ us hl => Zdd (Pr := fun us => bindArgs _ ⟨us, []⟩ = pure (List.zip _ us)) us hl fun _ _ => rfl
 have U36 := Zaq (st := Za3) l36 c36 k36
 have b36 := U36.binds (ps := ["tree", "homes"]) fun _ _ _ _ _ _ us hl => Zdd (Pr := fun us => bindArgs _ ⟨us, []⟩ = pure (List.zip _ us)) us hl fun _ _ => rfl
 have U37 := Zaq (st := Zc4) l37 c37 k37
 have b37 := U37.binds (ps := ["tree", "homes", "k"]) fun _ _ _ _ _ _ us hl => ZkR (Pr := fun us => bindArgs _ ⟨us, []⟩ = pure (List.zip _ us)) us hl fun _ _ _ => rfl
 have U38 := Zaq (st := Zcr) l38 c38 k38
 have b38 := U38.binds (ps := ["homes", "names"]) fun _ _ _ _ _ _ us hl => Zdd (Pr := fun us => bindArgs _ ⟨us, []⟩ = pure (List.zip _ us)) us hl fun _ _ => rfl
 have U39 := Zaq (st := Zby) l39 c39 k39
 have b39 := U39.binds (ps := ["price", "payers", "left"]) fun _ _ _ _ _ _ us hl => ZkR (Pr := fun us => bindArgs _ ⟨us, []⟩ = pure (List.zip _ us)) us hl fun _ _ _ => rfl
 have U40 := Zaq (st := ZaZ) l40 c40 k40
 have b40 := U40.binds (ps := ["tree", "homes", "sharing"]) fun _ _ _ _ _ _ us hl => ZkR (Pr := fun us => bindArgs _ ⟨us, []⟩ = pure (List.zip _ us)) us hl fun _ _ _ => rfl
 have U41 := Zaq (st := Zco) l41 c41 k41
 have b41 := U41.binds (ps := ["tree", "homes", "sharing"]) fun _ _ _ _ _ _ us hl => ZkR (Pr := fun us => bindArgs _ ⟨us, []⟩ = pure (List.zip _ us)) us hl fun _ _ _ => rfl
 have U42 := Zaq (st := Zb3) l42 c42 k42
 have b42 := U42.binds (ps := ["_law_roads", "_law_k"]) fun _ _ _ _ _ _ us hl => Zdd (Pr := fun us => bindArgs _ ⟨us, []⟩ = pure (List.zip _ us)) us hl fun _ _ => rfl
 have U43 := Zaq (st := ZbY) l43 c43 k43
 have b43 := U43.binds (ps := ["_law_one", "_law_other"]) fun _ _ _ _ _ _ us hl => Zdd (Pr := fun us => bindArgs _ ⟨us, []⟩ = pure (List.zip _ us)) us hl fun _ _ => rfl
 have U44 := Zaq (st := ZbC) l44 c44 k44
 have b44 := U44.binds (ps := ["_law_one", "_law_other"]) fun _ _ _ _ _ _ us hl => Zdd (Pr := fun us => bindArgs _ ⟨us, []⟩ = pure (List.zip _ us)) us hl fun _ _ => rfl
 have U45 := Zaq (st := Zbk) l45 c45 k45
 have b45 := U45.binds (ps := ["_law_some"]) fun _ _ _ _ _ _ us hl => len1 (Pr := fun us => bindArgs _ ⟨us, []⟩ = pure (List.zip _ us)) us hl fun _ => rfl
 have U46 := Zaq (st := ZbD) l46 c46 k46
 have b46 := U46.binds (ps := ["_law_roads", "_law_homes", "_law_group"]) fun _ _ _ _ _ _ us hl => ZkR (Pr := fun us => bindArgs _ ⟨us, []⟩ = pure (List.zip _ us)) us hl fun _ _ _ => rfl
 have U47 := Zaq (st := ZaQ) l47 c47 k47
 have b47 := U47.binds (ps := ["_law_roads", "_law_homes", "_law_cell"]) fun _ _ _ _ _ _ us hl => ZkR (Pr := fun us => bindArgs _ ⟨us, []⟩ = pure (List.zip _ us)) us hl fun _ _ _ => rfl
 have U48 := Zaq (st := ZaD) l48 c48 k48
 have b48 := U48.binds (ps := ["_law_roads", "_law_homes", "_law_sharing", "_law_group"]) fun _ _ _ _ _ _ us hl => len4 (Pr := fun us => bindArgs _ ⟨us, []⟩ = pure (List.zip _ us)) us hl fun _ _ _ _ => rfl
 have U49 := Zaq (st := ZeX) l49 c49 k49
 refine ⟨PySem.W.fnOf "law" "law" (Zag ZeX) (Zaf ZeX) (Zaa ZeX) .none kV49 dc49 pm49 an49 cd49 ct49, fun s v => .of_eq rfl, fun base _ _ hB => ?_⟩
 have F_is_whole := Za0 X G a0 k0 b0 (My.ZfS (P := l.prog) (w := w) (base := base) U0 n_isinstance n_int n_bool)
 have F_greatest_divisor := Za0 X G a1 k1 b1 (My.ok_gcd (P := l.prog) (w := w) (base := base) U1 n_abs)
 have F_is_ratio := Za0 X G a2 k2 b2 (My.Zgr (P := l.prog) (w := w) (base := base) U2 n_isinstance n_tuple n_len F_is_whole F_greatest_divisor)
 have O_ratio := My.Zkz (P := l.prog) (w := w) (base := base) U3 F_is_whole F_greatest_divisor
 have F_ratio : Fn l.prog w K mg base CX0 _ "ratio" ["top", "bottom"] _ := ⟨f3, _, O_ratio, b3, k3, PySem.W.mg_of X G a3⟩
 have F_ratio0 := F_ratio
 have F_ratio_d : FnD l.prog w K mg base CX0 _ "ratio" ["top", "bottom"] [.int 1] _ := ⟨_, _, _, O_ratio, b3_1, .cons ⟨_, rfl⟩ .nil, k3, PySem.W.mg_of X G a3⟩
 have F_least_multiple := Za0 X G a6 k6 b6 (My.ok_lcm (P := l.prog) (w := w) (base := base) U6 F_greatest_divisor)
 have F_common_bottom := Za0 X G a7 k7 b7 (My.Zjm (P := l.prog) (w := w) (base := base) U7 F_least_multiple)
 have F_top_over := Za0 X G a8 k8 b8 (My.ok_top (P := l.prog) (w := w) (base := base) U8 )
 have F_total_of := Za0 X G a9 k9 b9 (My.Zky (P := l.prog) (w := w) (base := base) U9 n_sum F_common_bottom F_top_over F_ratio0)
 have F_is_price := Za0 X G a10 k10 b10 (My.Zgk (P := l.prog) (w := w) (base := base) U10 F_is_ratio)
 have F_is_road := Za0 X G a11 k11 b11 (My.Zh0 (P := l.prog) (w := w) (base := base) U11 n_isinstance n_tuple n_len F_is_whole F_is_price)
 have F_look_roads := Za0 X G a13 k13 b13 (My.ok_look (P := l.prog) (w := w) (base := base) U13 n_isinstance n_list n_len g_MOST_ROADS F_is_road)
 have F_way_from := Za0 X G a14 k14 b14 (My.ok_wayf (P := l.prog) (w := w) (base := base) U14 n_len)
 have O_Tree___init__ := My.ok_init (P := l.prog) (w := w) (base := base) U16 n_list n_len n_range cls_Tree nf_lanes nf_ways F_look_roads F_way_from
 have K_Tree : Mkr l.prog w K mg base CX0 _ cTree "Tree" ["self", "roads"] _ := ⟨f16, _, O_Tree___init__, b16, ⟨mk16, a16, i16, kc16⟩, m_Tree⟩
 have O_Tree_many := My.ok_many (P := l.prog) (w := w) (base := base) U17 n_len cls_Tree nf_ways
 have M_many : Mth l.prog w K mg base CX0 _ cTree "many" ["self"] _ := ⟨f17, _, O_Tree_many, b17, ⟨a17, i17, k17⟩, cls_Tree⟩
 have O_Tree_look_crossing := My.Zkr (P := l.prog) (w := w) (base := base) U18 (CNP := 0) F_is_whole M_many
 have M_look_crossing : Mth l.prog w K mg base CX0 _ cTree "look_crossing" ["self", "k"] _ := ⟨f18, _, O_Tree_look_crossing, b18, ⟨a18, i18, k18⟩, cls_Tree⟩
 have O_Tree_look_road := My.Zk9 (P := l.prog) (w := w) (base := base) U19 M_look_crossing
 have M_look_road : Mth l.prog w K mg base CX0 _ cTree "look_road" ["self", "k"] _ := ⟨f19, _, O_Tree_look_road, b19, ⟨a19, i19, k19⟩, cls_Tree⟩
 have O_Tree_way := My.ok_wayM (P := l.prog) (w := w) (base := base) U20 n_list cls_Tree nf_ways M_look_crossing
 have M_way : Mth l.prog w K mg base CX0 _ cTree "way" ["self", "k"] _ := ⟨f20, _, O_Tree_way, b20, ⟨a20, i20, k20⟩, cls_Tree⟩
 have O_Tree_beneath := My.ok_benM (P := l.prog) (w := w) (base := base) U21 n_range cls_Tree nf_ways M_many M_look_road
 have M_beneath : Mth l.prog w K mg base CX0 _ cTree "beneath" ["self", "k"] _ := ⟨f21, _, O_Tree_beneath, b21, ⟨a21, i21, k21⟩, cls_Tree⟩
 have O_Tree_price := My.Zh7 (P := l.prog) (w := w) (base := base) U22 cls_Tree nf_lanes M_look_road
 have M_price : Mth l.prog w K mg base CX0 _ cTree "price" ["self", "k"] _ := ⟨f22, _, O_Tree_price, b22, ⟨a22, i22, k22⟩, cls_Tree⟩
 have F_rest_of := Za0 X G a23 k23 b23 (My.Zkh (P := l.prog) (w := w) (base := base) U23 F_ratio0)
 have F_needed := Za0 X G a24 k24 b24 (My.Zjf (P := l.prog) (w := w) (base := base) U24 n_sorted n_set M_way)
 have F_cost := Za0 X G a25 k25 b25 (My.ok_cost (P := l.prog) (w := w) (base := base) U25 F_total_of F_needed M_price)
 have F_law_cell_at := Za0 X G a26 k26 b26 (My.ok_cell (P := l.prog) (w := w) (base := base) U26 n_len)
 have F_law_mixed := Za0 X G a27 k27 b27 (My.ZlR (P := l.prog) (w := w) (base := base) U27 )
 have F_law_numbers := Za0 X G a28 k28 b28 (My.ZhB (P := l.prog) (w := w) (base := base) U28 n_range F_law_mixed)
 have F_law_low := Za0 X G a29 k29 b29 (My.ok_lowT (P := l.prog) (w := w) (base := base) U29 n_abs)
 have F_law_price_by := Za0 X G a30 k30 b30 (My.ZkP (P := l.prog) (w := w) (base := base) U30 F_law_low)
 have F_law_roads_by := Za0 X G a31 k31 b31 (My.ok_roads (P := l.prog) (w := w) (base := base) U31 n_list n_range n_enumerate n_int n_min F_law_cell_at F_law_numbers F_law_price_by)
 have F_law_names_by := Za0 X G a32 k32 b32 (My.ok_names (P := l.prog) (w := w) (base := base) U32 n_range n_len n_list)
 have F_law_homes_by := Za0 X G a33 k33 b33 (My.Zi8 (P := l.prog) (w := w) (base := base) U33 n_zip n_len F_law_cell_at F_law_names_by F_law_numbers)
 have F_far_roads_first := Za0 X G a34 k34 b34 (My.ok_far (P := l.prog) (w := w) (base := base) U34 hcd34 hC34 hB n_len n_sorted n_list F_needed M_way)
 have F_is_less := Za0 X G a35 k35 b35 (My.ZjF (P := l.prog) (w := w) (base := base) U35 )
 have F_cost_of_all := Za0 X G a36 k36 b36 (My.Zhk (P := l.prog) (w := w) (base := base) U36 n_list F_cost)
 have F_users := Za0 X G a37 k37 b37 (My.ZlE (P := l.prog) (w := w) (base := base) U37 n_sorted M_beneath)
 have F_others := Za0 X G a38 k38 b38 (My.ZiE (P := l.prog) (w := w) (base := base) U38 n_sorted)
 have F_payments := Za0 X G a39 k39 b39 (My.ok_pays (P := l.prog) (w := w) (base := base) U39 F_is_less F_ratio_d F_rest_of)
 have F_look_sharing := Za0 X G a40 k40 b40 (My.ok_lookS (P := l.prog) (w := w) (base := base) U40 n_set n_list F_total_of F_cost_of_all)
 have F_judged := Za0 X G a41 k41 b41 (My.Zjg (P := l.prog) (w := w) (base := base) U41 n_sorted n_dict F_look_sharing F_others F_far_roads_first F_users F_is_less F_total_of M_price F_payments F_rest_of)
 have F_law_way := Za0 X G a42 k42 b42 (My.ok_way (P := l.prog) (w := w) (base := base) U42 )
 have F_law_add := Za0 X G a43 k43 b43 (My.ok_ladd (P := l.prog) (w := w) (base := base) U43 F_law_low)
 have F_law_less := Za0 X G a44 k44 b44 (My.ZlT (P := l.prog) (w := w) (base := base) U44 F_law_low)
 have F_law_total := Za0 X G a45 k45 b45 (My.Zjn (P := l.prog) (w := w) (base := base) U45 F_law_add)
 have F_law_cost := Za0 X G a46 k46 b46 (My.Zll (P := l.prog) (w := w) (base := base) U46 F_law_way F_law_total)
 have F_law_shared_by := Za0 X G a47 k47 b47 (My.Zi0 (P := l.prog) (w := w) (base := base) U47 n_len n_range n_max n_sum n_zip F_law_numbers F_law_way F_law_add F_law_low)
 have F_law_group_holds := Za0 X G a48 k48 b48 (My.ok_gh (P := l.prog) (w := w) (base := base) U48 (CT := cTree) n_isinstance n_list n_len n_str n_sorted F_law_less F_law_total F_law_cost)
 exact My.ok_law (P := l.prog) (w := w) (base := base) U49 n_len n_list n_dict n_range n_isinstance n_tuple F_law_cell_at F_law_roads_by F_law_homes_by F_law_shared_by F_law_add F_law_less F_law_low F_law_cost F_judged F_law_group_holds K_Tree
end My
namespace PySem.W.Fast
def tw8203582566233341159 := ()
def tw9195645438236265976 := ()
def tw10258846571904803815 := ()
def tw14145167716283012266 := ()
def tw18210464696956503005 := ()
def tw16599091287321931747 := ()
def tw15965836076943393383 := ()
def tw4817847021031019673 := ()
def tw5727557929902173213 := ()
def tw6719564818203651158 := ()
def tw11020390936970802355 := ()
def tw10384186041628547150 := ()
def tw10048123865216063856 := ()
def tw16961365901764216668 := ()
def tw6392736609194386472 := ()
def tw1074096642645030995 := ()
def tw11097345575111066499 := ()
def tw3301057248428065715 := ()
def tw10303359088207876350 := ()
def tw12106881737125311327 := ()
def tw5474137170246475754 := ()
def tw2133712254313168346 := ()
def tw8277259632134269292 := ()
def tw6824217278374864609 := ()
def tw13577549010107508769 := ()
def tw9946737683791853695 := ()
def tw15185583928376746270 := ()
def tw10398176097105021619 := ()
def tw5173431266450146130 := ()
def tw2571432045995729321 := ()
def tw12987055119748663459 := ()
def tw12802780729761671381 := ()
def tw6377684897084629120 := ()
def tw17268189916969016921 := ()
def tw16292169691857226514 := ()
def tw12428431224834906779 := ()
def tw16416853325171049237 := ()
def tw12522061955690479917 := ()
def tw11288328851382293023 := ()
def tw1758875196030105997 := ()
def tw9273406169672730867 := ()
def tw4137180841461716845 := ()
def tw8652646092254919558 := ()
def tw3611048812458499040 := ()
def tw5620959811987313458 := ()
def tw8349094799574667291 := ()
def tw5005889883840737937 := ()
def tw11947007542977855009 := ()
def tw4578086856756899599 := ()
def tw7673481636421856509 := ()
def tw2942291993399298205 := ()
def tw14631086749769026658 := ()
def tw3466012858157053862 := ()
def tw14823206801174873171 := ()
def tw10690726589519286588 := ()
def tw17988947888146446073 := ()
def tw12052158631434198186 := ()
def tw11438300146257887549 := ()
def tw370872106316637026 := ()
def tw6658457463710481461 := ()
def tw3968153234730949756 := ()
def tw9990767650361586431 := ()
def tw7847542049798248993 := ()
def tw7779228633259705795 := ()
def tw10357405570415979439 := ()
def tw12422263257998842382 := ()
def tw6634292556331043384 := ()
def tw6158609649364165085 := ()
def tw17047094308584182636 := ()
def tw6190344035978934728 := ()
def tw13672997872566432157 := ()
def tw15542109372636553972 := ()
def tw5774601804273613324 := ()
def tw17535685591385611662 := ()
def tw12015667844245949353 := ()
def tw17254502850266903072 := ()
def tw4420101320691392653 := ()
def tw12932253118995381409 := ()
def tw5783001673387855519 := ()
def tw7288364293432565372 := ()
def tw16259717472999594041 := ()
def tw10349513526514419364 := ()
def tw4686755123154631218 := ()
def tw17565233585676655467 := ()
def tw10612753211829483500 := ()
def tw1390779748569338365 := ()
def tw13698064147415146255 := ()
def tw14970038578910920784 := ()
def tw8372414745595736822 := ()
def tw3761672679805601825 := ()
def tw4964065697308497258 := ()
def tw13976732999337995200 := ()
def tw15531043304908944761 := ()
def tw14833189055648335242 := ()
def tw4387991655895981107 := ()
def tw11973317605074950040 := ()
def tw16701786861837308469 := ()
def tw9805874673510560027 := ()
def tw17187164724387252206 := ()
def tw3890589323318120579 := ()
def tw11313402659613668245 := ()
def tw2992947782456166582 := ()
def tw15119205569541679532 := ()
def tw4472628028342237633 := ()
def tw16045747063843423263 := ()
def tw5701136810292258855 := ()
def tw7177250487870686543 := ()
def tw2613773346473555341 := ()
def tw4003775620434444253 := ()
def tw6693935549791783454 := ()
def tw8685022334094257628 := ()
def tw7504827010064037651 := ()
def tw15785692442121870646 := ()
def tw7830568044387638890 := ()
def tw4765917493197600470 := ()
def tw9937838389793565768 := ()
def tw6704797192783029964 := ()
def tw9213095758395117933 := ()
def tw15730064093974216052 := ()
def tw5812765932525521474 := ()
def tw1370849038839254421 := ()
def tw12202719227546421773 := ()
end PySem.W.Fast
open PySem PySem.W PyProof.Rows
set_option maxRecDepth 100000 in
set_option maxHeartbeats 0 in
theorem PySem.Challenge.cw_roadshare_k33_refused_ones_have_groups_holds : PySem.Challenge.rw_roadshare_k33_refused_ones_have_groups.Holds := by
 w_on; o_law; k_head; (case hw => w_witness2)
 k_fill
 refine L2.ZiS (l := PySem.Challenge.rw_roadshare_k33_refused_ones_have_groups) (n := 63) (k := 10) (x := "_law_script") (CX := L2.CX0) (sp := My.ZjS 160) (fun b => if b = 160 then some (Str.ofString "far_roads_first.<locals>.<lambda>") else none) rfl (by decide) rfl ⟨rfl, by decide, by decide⟩ (fun w h Y => PySem.W.km_in_of Y) ?T ?KT ?F ?S ?C
 case T =>
  intro w h Y b q hb
  have e : b = 160 := by
   by_cases z : b = 160
   ·exact z
   ·rw [if_neg z] at hb; cases hb
  subst e
  exact ⟨⟨164, PySem.W.codeHd_of_K (PySem.W.km_in_of Y) (by kernel_rfl)⟩, PySem.W.km_tabs_of Y 160 (by simp)⟩
 case KT =>
  intro w b q hb
  have e : b = 160 := by
   by_cases z : b = 160
   ·exact z
   ·rw [if_neg z] at hb; cases hb
  subst e
  first | k_is | kernel_rfl
 case S => exact fun K H a ns hl hO hS => ⟨a, ns, rfl, hS, hO 160 _ (if_pos rfl), fun _ => rfl⟩
 case C => exact fun _ _ _ _ z => z
 case F =>
  intro w mg fa h KX G hmg
  refine' My.all_mk KX G hmg ?a0 ?l0 ?c0 ?k0 ?a1 ?l1 ?c1 ?k1 ?a2 ?l2 ?c2 ?k2 ?a3 ?l3 ?c3 ?k3 ?t3 ?a6 ?l6 ?c6 ?k6 ?a7 ?l7 ?c7 ?k7 ?a8 ?l8 ?c8 ?k8 ?a9 ?l9 ?c9 ?k9 ?a10 ?l10 ?c10 ?k10 ?a11 ?l11 ?c11 ?k11 ?a_MOST_ROADS ?a13 ?l13 ?c13 ?k13 ?a14 ?l14 ?c14 ?k14 ?a_Tree ?pg_Tree ?hd_Tree ?po_Tree ?sa_Tree ?nf_lanes ?nf_ways ?a16 ?l16 ?c16 ?k16 ?i16 ?mk16 ?kc16 ?a17 ?l17 ?c17 ?k17 ?i17 ?a18 ?l18 ?c18 ?k18 ?i18 ?a19 ?l19 ?c19 ?k19 ?i19 ?a20 ?l20 ?c20 ?k20 ?i20 ?a21 ?l21 ?c21 ?k21 ?i21 ?a22 ?l22 ?c22 ?k22 ?i22 ?a23 ?l23 ?c23 ?k23 ?a24 ?l24 ?c24 ?k24 ?a25 ?l25 ?c25 ?k25 ?a26 ?l26 ?c26 ?k26 ?a27 ?l27 ?c27 ?k27 ?a28 ?l28 ?c28 ?k28 ?a29 ?l29 ?c29 ?k29 ?a30 ?l30 ?c30 ?k30 ?a31 ?l31 ?c31 ?k31 ?a32 ?l32 ?c32 ?k32 ?a33 ?l33 ?c33 ?k33 ?a34 ?l34 ?c34 ?k34 ?hcd34 ?hC34 ?a35 ?l35 ?c35 ?k35 ?a36 ?l36 ?c36 ?k36 ?a37 ?l37 ?c37 ?k37 ?a38 ?l38 ?c38 ?k38 ?a39 ?l39 ?c39 ?k39 ?a40 ?l40 ?c40 ?k40 ?a41 ?l41 ?c41 ?k41 ?a42 ?l42 ?c42 ?k42 ?a43 ?l43 ?c43 ?k43 ?a44 ?l44 ?c44 ?k44 ?a45 ?l45 ?c45 ?k45 ?a46 ?l46 ?c46 ?k46 ?a47 ?l47 ?c47 ?k47 ?a48 ?l48 ?c48 ?k48 ?a49 ?l49 ?c49 ?k49 ?z_isinstance ?z_int ?z_bool ?z_abs ?z_tuple ?z_len ?z_sum ?z_list ?z_range ?z_sorted ?z_set ?z_enumerate ?z_min ?z_zip ?z_dict ?z_max ?z_str
  (case a0 => k_is)
  (case l0 => k_is)
  (case c0 => k_is)
  (case k0 => k_is)
  (case a1 => k_is)
  (case l1 => k_is)
  (case c1 => k_is)
  (case k1 => k_is)
  (case a2 => k_is)
  (case l2 => k_is)
  (case c2 => k_is)
  (case k2 => k_is)
  (case a3 => k_is)
  (case l3 => k_is)
  (case c3 => k_is)
  (case k3 => k_is)
  (case t3 => k_is)
  (case a6 => k_is)
  (case l6 => k_is)
  (case c6 => k_is)
  (case k6 => k_is)
  (case a7 => k_is)
  (case l7 => k_is)
  (case c7 => k_is)
  (case k7 => k_is)
  (case a8 => k_is)
  (case l8 => k_is)
  (case c8 => k_is)
  (case k8 => k_is)
  (case a9 => k_is)
  (case l9 => k_is)
  (case c9 => k_is)
  (case k9 => k_is)
  (case a10 => k_is)
  (case l10 => k_is)
  (case c10 => k_is)
  (case k10 => k_is)
  (case a11 => k_is)
  (case l11 => k_is)
  (case c11 => k_is)
  (case k11 => k_is)
  (case a_MOST_ROADS => k_is)
  (case a13 => k_is)
  (case l13 => k_is)
  (case c13 => k_is)
  (case k13 => k_is)
  (case a14 => k_is)
  (case l14 => k_is)
  (case c14 => k_is)
  (case k14 => k_is)
  (case a_Tree => k_is)
  (case pg_Tree => k_is)
  (case hd_Tree => k_is)
  (case po_Tree => k_is)
  (case sa_Tree => k_is)
  (case nf_lanes => k_is)
  (case nf_ways => k_is)
  (case a16 => k_is)
  (case l16 => k_is)
  (case c16 => k_is)
  (case k16 => k_is)
  (case i16 => k_is)
  (case mk16 => k_is)
  (case kc16 => k_is)
  (case a17 => k_is)
  (case l17 => k_is)
  (case c17 => k_is)
  (case k17 => k_is)
  (case i17 => k_is)
  (case a18 => k_is)
  (case l18 => k_is)
  (case c18 => k_is)
  (case k18 => k_is)
  (case i18 => k_is)
  (case a19 => k_is)
  (case l19 => k_is)
  (case c19 => k_is)
  (case k19 => k_is)
  (case i19 => k_is)
  (case a20 => k_is)
  (case l20 => k_is)
  (case c20 => k_is)
  (case k20 => k_is)
  (case i20 => k_is)
  (case a21 => k_is)
  (case l21 => k_is)
  (case c21 => k_is)
  (case k21 => k_is)
  (case i21 => k_is)
  (case a22 => k_is)
  (case l22 => k_is)
  (case c22 => k_is)
  (case k22 => k_is)
  (case i22 => k_is)
  (case a23 => k_is)
  (case l23 => k_is)
  (case c23 => k_is)
  (case k23 => k_is)
  (case a24 => k_is)
  (case l24 => k_is)
  (case c24 => k_is)
  (case k24 => k_is)
  (case a25 => k_is)
  (case l25 => k_is)
  (case c25 => k_is)
  (case k25 => k_is)
  (case a26 => k_is)
  (case l26 => k_is)
  (case c26 => k_is)
  (case k26 => k_is)
  (case a27 => k_is)
  (case l27 => k_is)
  (case c27 => k_is)
  (case k27 => k_is)
  (case a28 => k_is)
  (case l28 => k_is)
  (case c28 => k_is)
  (case k28 => k_is)
  (case a29 => k_is)
  (case l29 => k_is)
  (case c29 => k_is)
  (case k29 => k_is)
  (case a30 => k_is)
  (case l30 => k_is)
  (case c30 => k_is)
  (case k30 => k_is)
  (case a31 => k_is)
  (case l31 => k_is)
  (case c31 => k_is)
  (case k31 => k_is)
  (case a32 => k_is)
  (case l32 => k_is)
  (case c32 => k_is)
  (case k32 => k_is)
  (case a33 => k_is)
  (case l33 => k_is)
  (case c33 => k_is)
  (case k33 => k_is)
  (case a34 => k_is)
  (case l34 => k_is)
  (case c34 => k_is)
  (case k34 => k_is)
  (case hcd34 => exact rfl)
  (case hC34 => kernel_rfl)
  (case a35 => k_is)
  (case l35 => k_is)
  (case c35 => k_is)
  (case k35 => k_is)
  (case a36 => k_is)
  (case l36 => k_is)
  (case c36 => k_is)
  (case k36 => k_is)
  (case a37 => k_is)
  (case l37 => k_is)
  (case c37 => k_is)
  (case k37 => k_is)
  (case a38 => k_is)
  (case l38 => k_is)
  (case c38 => k_is)
  (case k38 => k_is)
  (case a39 => k_is)
  (case l39 => k_is)
  (case c39 => k_is)
  (case k39 => k_is)
  (case a40 => k_is)
  (case l40 => k_is)
  (case c40 => k_is)
  (case k40 => k_is)
  (case a41 => k_is)
  (case l41 => k_is)
  (case c41 => k_is)
  (case k41 => k_is)
  (case a42 => k_is)
  (case l42 => k_is)
  (case c42 => k_is)
  (case k42 => k_is)
  (case a43 => k_is)
  (case l43 => k_is)
  (case c43 => k_is)
  (case k43 => k_is)
  (case a44 => k_is)
  (case l44 => k_is)
  (case c44 => k_is)
  (case k44 => k_is)
  (case a45 => k_is)
  (case l45 => k_is)
  (case c45 => k_is)
  (case k45 => k_is)
  (case a46 => k_is)
  (case l46 => k_is)
  (case c46 => k_is)
  (case k46 => k_is)
  (case a47 => k_is)
  (case l47 => k_is)
  (case c47 => k_is)
  (case k47 => k_is)
  (case a48 => k_is)
  (case l48 => k_is)
  (case c48 => k_is)
  (case k48 => k_is)
  (case a49 => k_is)
  (case l49 => k_is)
  (case c49 => k_is)
  (case k49 => k_is)
  (case z_isinstance => k_is)
  (case z_int => k_is)
  (case z_bool => k_is)
  (case z_abs => k_is)
  (case z_tuple => k_is)
  (case z_len => k_is)
  (case z_sum => k_is)
  (case z_list => k_is)
  (case z_range => k_is)
  (case z_sorted => k_is)
  (case z_set => k_is)
  (case z_enumerate => k_is)
  (case z_min => k_is)
  (case z_zip => k_is)
  (case z_dict => k_is)
  (case z_max => k_is)
  (case z_str => k_is)
#print axioms PySem.Challenge.cw_roadshare_k33_refused_ones_have_groups_holds

import PyProof.Rows.All
import Wide.All
import OpenK.AllK
import Wide.FinOn
import Lean
import PyProof.EqAt
import PyProof.EqKinds
import PyProof.TupleCall
import KE.KLam
import KE.KSortKey
import KE.KSortTup
import KE.KNestM
import PyProof.NeKinds
import PySem.Challenge.RW_roadshare_k31_no_sharings
open PySem.W (instObj methodObj hideAll hideAll_get of_hideAll lookIn plainGet hasDictIn handedIn plainGet_of isFn plainOver takerIn makesIn emptyDict keepIn kitOne kia_one kitx_list kitx_dict callWith_K methodCall_KW cellsFrom_some fnOf codeIn excIn exmOne kdl_call kdl_dict KeqHits codeHdIn codeHd_of_K nsIn mg_of mg_none_of km_in_of)
abbrev Ya := @PySem.wpAny_bind
abbrev Yb := @PySem.wpAny_pure
abbrev Yc := @List.getElem?_eq_getElem
abbrev Yd := @Nat.le_refl
abbrev Ye := @PySem.Heap.lt_size
abbrev Yf := @PySem.Heap.get?_push_of_some
abbrev Yg := @List.length_map
abbrev Yh := @Nat.le_trans
abbrev Yi := @List.getElem?_map
abbrev Yj := @List.getElem?_eq_some_iff
abbrev Yk := @List.mem_map
abbrev Yl := @Nat.ne_of_lt
abbrev Ym := @List.mem_cons
abbrev Yn := @PySem.Heap.get?_push_size
abbrev Yo := @Nat.lt_of_lt_of_le
abbrev Yp := @PySem.wpAny_mono
abbrev Yq := @List.mem_of_getElem?
abbrev Yr := @List.map_cons
abbrev Ys := @Nat.le_of_lt
abbrev Yt := @List.mem_filter
abbrev Yu := @List.mem_append
abbrev Yv := @List.map_map
abbrev Yw := @List.take_add_one
abbrev Yx := @List.mem_append_right
abbrev Yy := @Bool.false_ne_true
abbrev Yz := @Nat.lt_of_le_of_lt
abbrev YA := @Nat.zero_le
abbrev YB := @List.mem_singleton
abbrev YC := @PySem.PassesOwn.never
abbrev YD := @PySem.wpAny_holding
abbrev YE := @List.take_length
abbrev YF := @Nat.lt_irrefl
abbrev YG := @Option.map_eq_some_iff
abbrev YH := @Array.getElem?_toList
abbrev YI := @List.getElem_mem
abbrev YJ := @PySem.sizeLine_eq
abbrev YK := @List.length_filter_le
abbrev YL := @Array.length_toList
abbrev YM := @List.size_toArray
abbrev YN := @PySem.codeAny_mono
abbrev YO := @List.map_congr_left
abbrev YQ := @List.length_cons
abbrev YR := @Option.some.inj
abbrev YS := @List.length_append
abbrev YT := @Int.emod_nonneg
abbrev YU := @Nat.pow_le_pow_right
abbrev YV := @PySem.wpAny_call_entry
abbrev YW := @List.map_append
abbrev YX := @List.getElem?_append_right
abbrev YY := @List.getElem?_eq_none
abbrev YZ := @List.mem_cons_of_mem
abbrev Y0 := @PySem.wpAny_setEntries_of
abbrev Y1 := @Int.emod_lt_of_pos
abbrev Y2 := @PySem.wpAny_Call_Name_kw
abbrev Y3 := @Nat.lt_succ_of_lt
abbrev Y4 := @List.length_take
abbrev Y5 := @decide_eq_false
abbrev Y6 := @List.nodup_cons
abbrev Y7 := @List.append_nil
abbrev Y8 := @decide_eq_true
abbrev Y9 := @PyProof.Rows.callWith_type1
abbrev Va := @List.getElem?_append_left
abbrev Vb := @Array.getElem?_eq_getElem
abbrev Vc := @PySem.mem_of_lookup
abbrev Vd := @List.mem_cons_self
abbrev Ve := @decide_eq_true_eq
abbrev Vf := @PySem.codeAny_builtin
abbrev Vg := @List.mem_range
abbrev Vh := @PySem.wpAny_newObj_type
abbrev Vi := @List.length_zip
abbrev Vj := @Rat.add_assoc
abbrev Vk := @Nat.ne_of_gt
abbrev Vl := @Nat.pow_add
abbrev Vm := @PySem.Heap.get?_update_other
abbrev Vn := @Rat.num_divInt_den
abbrev Vo := @PySem.wpAny_setState_of
abbrev Vp := @Nat.le_of_eq
abbrev Vq := @Nat.le_succ
abbrev Vr := @PySem.wpAny_rule
abbrev Vs := @PySem.wpAny_call
abbrev Vt := @List.mem_append_left
abbrev Vu := @List.getElem?_of_mem
abbrev Vv := @PySem.Around.under_plainId
abbrev Vw := @List.take_sublist
abbrev Vx := @List.pairwise_map
abbrev Vy := @PySem.wpAny_truthy_bool
abbrev Vz := @PySem.wpAny_isInstance
abbrev VA := @PySem.wpAny_passesOwn
abbrev VB := @PySem.wpAny_attempt
abbrev VC := @PySem.wpAny_load
abbrev VD := @Array.getD_eq_getD_getElem?
abbrev VE := @Classical.byContradiction
abbrev VF := @PySem.Calls.callWith_builtin
abbrev VG := @beq_eq_false_iff_ne
abbrev VH := @List.getElem_of_mem
abbrev VI := @List.filter_append
abbrev VJ := @Int.natAbs_natCast
abbrev VL := @of_decide_eq_true
abbrev VM := @List.mem_range'_1
abbrev VN := @Int.toNat_natCast
abbrev VO := @Nat.two_pow_pos
abbrev VP := @List.of_mem_zip
abbrev VQ := @Bool.eq_iff_iff
abbrev VR := @Nat.mul_le_mul
abbrev VS := @PySem.wpAny_ite_split
abbrev VT := @PySem.wpAny_execs_nil
abbrev VU := @Nat.dvd_trans
abbrev VV := @List.sum_cons
abbrev VW := @List.any_cons
abbrev VX := @PySem.wpAny_newList
abbrev VY := @PySem.plainId_quiet
abbrev VZ := @Nat.mul_pos
abbrev V0 := @beq_iff_eq
abbrev V1 := @List.Nodup.length_le_of_subset
abbrev V2 := @List.length_eq_zero_iff
abbrev V3 := @Rat.divInt_mul_right
abbrev V4 := @List.mem_map_of_mem
abbrev V5 := @Int.toNat_of_nonneg
abbrev V6 := @PySem.Calls.evalArgs_plain
abbrev V7 := @Nat.lt_succ_self
abbrev V8 := @Nat.le_add_right
abbrev V9 := @Bool.and_eq_true
abbrev Yaa := @Nat.not_lt_zero
abbrev Yab := @PySem.wpAny_forIn_list
abbrev Yac := @PySem.Heap.size_update
abbrev Yad := @PySem.W.KasT.kasWp_bind
abbrev Yae := @PySem.Heap.size_push
abbrev Yaf := @Rat.add_zero
abbrev Yag := @PyProof.Rows.get?_update_seq
abbrev Yah := @PySem.wpAny_standAt
abbrev Yai := @Int.gcd_pos_of_ne_zero_right
abbrev Yaj := @Int.fdiv_eq_ediv_of_nonneg
abbrev Yak := @List.drop_eq_getElem_cons
abbrev Yal := @List.Nodup.idxOf_getElem
abbrev Yam := @List.filter_cons_of_pos
abbrev Yan := @List.filter_cons_of_neg
abbrev Yao := @List.getElem?_set_self
abbrev Yap := @PySem.wpAny_callSpecial?_slot
abbrev Yaq := @List.getElem?_set_ne
abbrev Yar := @PySem.Heap.get?_update_self
abbrev Yas := @of_decide_eq_false
abbrev Yat := @PySem.codeAny_call_builtin
abbrev Yau := @Nat.dvd_mul_right
abbrev Yav := @List.nodup_append
abbrev Yaw := @List.ext_getElem?
abbrev Yax := @PySem.Heap.SameBut.update
abbrev Yay := @PySem.wpAny_tupleItemsOf
abbrev Yaz := @Nat.gcd_dvd_left
abbrev YaA := @PySem.Calls.spliced_cons
abbrev YaB := @PySem.wpAny_setEpoch_of
abbrev YaC := @Rat.zero_divInt
abbrev YaD := @Nat.div_le_self
abbrev YaE := @Int.natCast_pow
abbrev YaF := @Int.natCast_mul
abbrev YaG := @PySem.Heap.get?_push_ne
abbrev YaH := @PySem.F.plain_list_iadd
abbrev YaI := @List.take_append_drop
abbrev YaJ := @List.filterMap_cons
set_option Elab.async false
set_option linter.all false
set_option maxRecDepth 100000
namespace L2
open PySem PySem.Spec PyProof.Rows
abbrev ZC := Sum Int Str
def ZhH : ZC -> Value -> Bool
 | .inl k, v => Value.isInt k v
 | .inr x, v => Value.isStrOf x v
def Zr3 (w : World) : ZC -> Int
 | .inl k => hashInt k
 | .inr x => hashStr w x
def Zak : ∀ {k : ZC} {v : Value}, ZhH k v = true -> (∃ i t, k = Sum.inl i /\ v = Value.int i t) \/ (∃ x t, k = Sum.inr x /\ v = Value.str x t)
 | .inl i, v, h => by
  obtain ⟨t, e⟩ := Value.isInt_shape (k := i) (v := v) h
  exact .inl ⟨i, t, rfl, e⟩
 | .inr x, v, h => by
  obtain ⟨t, e⟩ := Value.isStrOf_shape (x := x) (v := v) h
  exact .inr ⟨x, t, rfl, e⟩
theorem Zjr (i : Int) (t : Tok) : ZhH (.inl i) (.int i t) = true := by simp [ZhH, Value.isInt]
theorem ZiP (x : Str) (t : Tok) : ZhH (.inr x) (.str x t) = true := by simp [ZhH, Value.isStrOf]
def Zpm (a b : Int) : decide ((Sum.inl a : ZC) = Sum.inl b) = (a == b) := by
 by_cases e : a = b
 ·subst e; simp
 ·have h : ¬ (Sum.inl a : ZC) = Sum.inl b := λq => e (Sum.inl.inj q)
  rw [Y5 h]
  exact (VG.mpr e).symm
def Zqj (a b : Str) : decide ((Sum.inr a : ZC) = Sum.inr b) = decide (a = b) := by
 by_cases e : a = b
 ·subst e; simp
 ·have h : ¬ (Sum.inr a : ZC) = Sum.inr b := λq => e (Sum.inr.inj q)
  rw [Y5 h, Y5 e]
def Zp4 (a : Int) (b : Str) : decide ((Sum.inl a : ZC) = Sum.inr b) = false := Y5 (λq => nomatch q)
def ZpM (a : Str) (b : Int) : decide ((Sum.inr a : ZC) = Sum.inl b) = false := Y5 (λq => nomatch q)
def ZO (prog : Program) (w : World) : PySem.KeyKind prog w ZC where
 is := ZhH
 hash := Zr3 w
 inj := λv a b ha hb => by
  rcases Zak ha with ⟨i, t, rfl, rfl⟩ | ⟨x, t, rfl, rfl⟩
  ·rcases Zak hb with ⟨j, u, rfl, e⟩ | ⟨y, u, rfl, e⟩
   ·injection e with e1 _; rw [e1]
   ·exact nomatch e
  ·rcases Zak hb with ⟨j, u, rfl, e⟩ | ⟨y, u, rfl, e⟩
   ·exact nomatch e
   ·injection e with e1 _; rw [e1]
 byValue := λk v h => by
  rcases Zak h with ⟨i, t, rfl, rfl⟩ | ⟨x, t, rfl, rfl⟩ <;> rfl
 pyHash := λhv h => by
  rcases Zak hv with ⟨i, t, rfl, rfl⟩ | ⟨x, t, rfl, rfl⟩
  ·exact wpAny_pyHash_int h
  ·exact wpAny_pyHash_str h
 eqBool := λhu hv h => by
  rcases Zak hu with ⟨i, t, rfl, rfl⟩ | ⟨x, t, rfl, rfl⟩
  ·rcases Zak hv with ⟨j, u, rfl, rfl⟩ | ⟨y, u, rfl, rfl⟩
   ·rw [Zpm] at h; exact wpAny_eqBool_int h
   ·rw [Zp4] at h; exact SeqAt.EqAt.int_str i t y u _ _ _ _ h
  ·rcases Zak hv with ⟨j, u, rfl, rfl⟩ | ⟨y, u, rfl, rfl⟩
   ·rw [ZpM] at h; exact SeqAt.EqAt.str_int x t j u _ _ _ _ h
   ·rw [Zqj] at h; exact wpAny_eqBool_str h
 «strs» := λk x t v h => by
  rcases Zak h with ⟨i, u, rfl, e⟩ | ⟨y, u, rfl, e⟩
  ·exact nomatch e
  ·injection e with e1 _
   subst e1
   cases v <;> rfl
def ZfL (prog : Program) (w : World) (i : Int) (t : Tok) : (ZO prog w).is (.inl i) (.int i t) = true := Zjr i t
def Zgn (prog : Program) (w : World) (x : Str) (t : Tok) : (ZO prog w).is (.inr x) (.str x t) = true := ZiP x t
inductive V where
 | non | bl (b : Bool) | int (i : Int) | str (x : Str) | byt (b : Array UInt8) | flt (b : UInt64) | ref (a : Addr) | ty (n : String)
 deriving DecidableEq
def RelV : V -> Value -> Prop
 | .non, u => u = Value.none
 | .bl b, u => u = Value.bool b
 | .int i, u => ∃ t, u = Value.int i t
 | .str x, u => ∃ t, u = Value.str x t
 | .byt b, u => ∃ t, u = Value.bytes b t
 | .flt b, u => ∃ t, u = Value.float b t
 | .ref a, u => u = Value.ref a
 | .ty n, u => u = Value.type n
abbrev Vals : List V -> List Value -> Prop := Paired RelV
theorem Vals.length {xs : List V} {us : List Value} (r : Vals xs us) : xs.length = us.length := Paired.length r
theorem Vals.get : ∀ {xs : List V} {us : List Value} {i : Nat} {x : V}, Vals xs us -> xs[i]? = some x -> ∃ u, us[i]? = some u /\ RelV x u
 | _, _, _, _, .nil, e => by simp at e
 | _, _, 0, _, .cons r _, e => by simp at e; subst e; exact ⟨_, rfl, r⟩
 | _, _, i + 1, x, .cons _ t, e => by
  obtain ⟨u, h1, h2⟩ := Vals.get (i := i) (x := x) t (by simpa using e)
  exact ⟨u, by simpa using h1, h2⟩
theorem Vals.set {x : V} {u : Value} (r : RelV x u) : ∀ {xs : List V} {us : List Value} (i : Nat), Vals xs us -> Vals (xs.set i x) (us.set i u)
 | _, _, _, .nil => .nil
 | _, _, 0, .cons _ t => .cons r t
 | _, _, i + 1, .cons q t => .cons q (Vals.set r i t)
theorem Vals.append : ∀ {xs ys : List V} {us ws : List Value}, Vals xs us -> Vals ys ws -> Vals (xs ++ ys) (us ++ ws)
 | _, _, _, _, .nil, s => s
 | _, _, _, _, .cons r t, s => .cons r (Vals.append t s)
theorem Vals.take : ∀ {xs : List V} {us : List Value} (n : Nat), Vals xs us -> Vals (xs.take n) (us.take n)
 | _, _, 0, _ => .nil
 | _, _, _ + 1, .nil => .nil
 | _, _, n + 1, .cons r t => .cons r (Vals.take n t)
theorem Vals.drop : ∀ {xs : List V} {us : List Value} (n : Nat), Vals xs us -> Vals (xs.drop n) (us.drop n)
 | _, _, 0, r => r
 | _, _, _ + 1, .nil => .nil
 | _, _, n + 1, .cons _ t => Vals.drop n t
def Vals.none_of : ∀ {xs : List V} {us : List Value} {i : Nat}, Vals xs us -> xs[i]? = none -> us[i]? = none := λ{xs us i} r e => by
 have h1 := r.length
 have h2 : xs.length <= i := List.getElem?_eq_none_iff.mp e
 exact List.getElem?_eq_none_iff.mpr (by omega)
def RelO : Option V -> Option Value -> Prop
 | some v, some u => RelV v u
 | none, none => True
 | _, _ => False
def KV {κ : Type} : List (κ × V) -> List (κ × Value) -> Prop := Paired λ(p : κ × V) (q : κ × Value) => p.1 = q.1 /\ RelV p.2 q.2
def kV : ZC -> V
 | .inl i => .int i
 | .inr x => .str x
inductive HO where
 | lst (xs : List V)
 | tup (xs : List V)
 | dK (kvs : List (ZC × V)) | dT (kvs : List (List ZC × V))
 | set (S : Int -> Bool) (n : Nat)
 | ins (C dx : Addr) (fs : List (Str × V))
 | own (x : Addr)
 | xd (fs : List (Str × V))
 | met (f x : Addr)
 | rng (lo hi : Int)
 | frz (o : Obj) (u : HO)
 | tbl (ps : Array Value)
 | ext (φ : Heap -> Prop)
abbrev Hp := Addr -> Option HO
def upd (H : Hp) (a : Addr) (o : HO) : Hp := λb => if b = a then some o else H b
theorem upd_same {H : Hp} {a : Addr} {o : HO} : upd H a o a = some o := by unfold upd; rw [if_pos rfl]
theorem Ze {H : Hp} {a b : Addr} {o : HO} (h : b ≠ a) : upd H a o b = H b := by unfold upd; rw [if_neg h]
def Zm4 {H : Hp} {a : Addr} {o u : HO} : upd (upd H a o) a u = upd H a u := by
 funext b; unfold upd; split <;> rfl
def Jc {H : Hp} {a b : Addr} {o u : HO} (h : H a = some o) (h' : H b = some u) (d : o ≠ u) : a ≠ b := by
 intro e; subst e; rw [h] at h'; exact d (YR h')
theorem Zp {H : Hp} {a b : Addr} {o : HO} (h : H a = some o) (h' : H b = none) : a ≠ b := by
 intro e; subst e; rw [h] at h'; cases h'
section
variable (P : Program) (w : World)
def ObjOk (H : Hp) (h : Heap) (a : Addr) : HO -> Prop
 | .lst xs => xs.length <= sizeLine /\ ∃ (its : List Value) (n : Nat), Vals xs its /\ h.get? a = some { cls := .type "list", data := .seq its.toArray n }
 | .tup xs => xs.length <= sizeLine /\ ∃ its : List Value, Vals xs its /\ IsTup h a its.toArray
 | .dK kvs => kvs.length <= sizeLine /\ (a == sysModules) = false /\ ∃ vs, KV kvs vs /\ h.DictOf (ZO P w) a vs
 | .dT kvs => kvs.length <= sizeLine /\ (a == sysModules) = false /\ ∃ xs : List (List ZC × Addr × Value),
   Paired (λ(p : List ZC × V) (q : List ZC × Addr × Value) => p.1 = q.1 /\ H q.2.1 = some (.tup (p.1.map kV)) /\ RelV p.2 q.2.2) kvs xs /\
   ∃ o es ep, h.get? a = some o /\ o.ExactDict /\ o.data = .dict es ep /\ es.toList = xs.map (entryOfKey (tupleKind (ZO P w))) /\ (xs.map (·.1)).Nodup
 | .set S n => h.SetOf (intKind P w) a S n
 | .ins C dx fs => H dx = some (.own a) /\ fs.length <= 1000 /\ dx ≠ a /\ h.get? a = some (instObj C dx) /\
   ∃ mA, h.Ns1 dx mA /\ (∀ f, RelO (fs.lookup f) (mA f)) /\ PySem.Within mA (fs.map (·.1))
 | .own _ => ∃ o, h.get? a = some o
 | .xd fs => ∃ mA, h.Ns1 a mA /\ ∀ f, RelO (fs.lookup f) (mA f)
 | .rng lo hi => ∃ t u v, h.get? a = some { cls := .type "range", data := .fields #[.int lo t, .int hi u, .int 1 v] }
 | .frz o u => h.get? a = some o /\ ObjOk H h a u
 | .tbl ps => ∃ qs : Array Value, h.get? a = some { cls := .none, data := .fields qs } /\ TriplesOk qs.toList /\ ∀ (pos : Pos) (v : Value), codeAmong pos qs.toList = some v ->
   ∃ (c : Addr) (o : Obj) (vs : Array Value) (q : Str) (t t' : Tok), v = .ref c /\ H c = some (.frz o (.own a)) /\ o.data = .fields vs /\ vs[1]? = some (.str q t) /\ ps[0]? = some (.str q t')
 | .met f x => h.get? a = some (methodObj (.ref f) (.ref x))
 | .ext φ => φ h /\ (∃ o, h.get? a = some o) /\ ∀ h1 h2 : Heap, φ h1 -> (∀ o, h1.get? a = some o -> h2.get? a = some o) -> φ h2
def HOk (H : Hp) (h : Heap) : Prop := ∀ a o, H a = some o -> ObjOk P w H h a o
end
section
variable {P : Program} {w : World} {H H' : Hp} {h h' : Heap} {a : Addr} {o : HO}
theorem ObjOk.lt (x : ObjOk P w H h a o) : a < h.objs.size := by
 cases o with
 | lst xs => obtain ⟨_, _, _, _, e⟩ := x; exact Ye e
 | tup xs => obtain ⟨_, _, _, p⟩ := x; exact p.lt
 | dK kvs => obtain ⟨_, _, _, _, o, _, _, e, _⟩ := x; exact Ye e
 | dT kvs => obtain ⟨_, _, _, _, o, _, _, e, _⟩ := x; exact Ye e
 | set S n => obtain ⟨o, _, _, _, e, _⟩ := x; exact Ye e
 | ins C dx fs => obtain ⟨_, _, _, e, _⟩ := x; exact Ye e
 | own y => obtain ⟨_, e⟩ := x; exact Ye e
 | xd fs => obtain ⟨_, ⟨_, _, _, e, _⟩, _⟩ := x; exact Ye e
 | rng lo hi => obtain ⟨_, _, _, e⟩ := x; exact Ye e
 | frz ob u => obtain ⟨e, _⟩ := x; exact Ye e
 | tbl ps => obtain ⟨_, e, _⟩ := x; exact Ye e
 | met f y => exact Ye (show h.get? a = some _ from x)
 | ext φ => obtain ⟨_, ⟨_, e⟩, _⟩ := x; exact Ye e
def Paired.mapP {α β : Type} {F G : α -> β -> Prop} : ∀ {l₁ : List α} {l₂ : List β}, Paired F l₁ l₂ -> (∀ a b, F a b -> G a b) -> Paired G l₁ l₂
 | _, _, .nil, _ => .nil
 | _, _, .cons r t, f => .cons (f _ _ r) (Paired.mapP t f)
def ObjOk.stay (x : ObjOk P w H h a o) (k : ∀ b u, (b = a \/ H b = some (.own a)) -> h.get? b = some u -> h'.get? b = some u)
  (ho : ∀ b, H b = some (.own a) -> H' b = some (.own a)) (ht : ∀ b xs, H b = some (.tup xs) -> H' b = some (.tup xs))
  (hf : ∀ b o, H b = some (.frz o (.own a)) -> H' b = some (.frz o (.own a)) := by exact λ_ _ q => q) : ObjOk P w H' h' a o := by
 induction o with
 | lst xs => obtain ⟨z, its, n, r, e⟩ := x; exact ⟨z, its, n, r, k _ _ (.inl rfl) e⟩
 | tup xs => obtain ⟨z, its, r, ob, e, c⟩ := x; exact ⟨z, its, r, ob, k _ _ (.inl rfl) e, c⟩
 | dK kvs => obtain ⟨z, y, vs, r, ob, es, ep, e, c⟩ := x; exact ⟨z, y, vs, r, ob, es, ep, k _ _ (.inl rfl) e, c⟩
 | dT kvs =>
  obtain ⟨z, y, xs, r, ob, es, ep, e, c⟩ := x
  exact ⟨z, y, xs, Paired.mapP r λp q z => ⟨z.1, ht _ _ z.2.1, z.2.2⟩, ob, es, ep, k _ _ (.inl rfl) e, c⟩
 | set S n => obtain ⟨ob, es, ep, t, e, c⟩ := x; exact ⟨ob, es, ep, t, k _ _ (.inl rfl) e, c⟩
 | ins C dx fs =>
  obtain ⟨d, z, ne, e, mA, ⟨od, es, ep, e2, c⟩, r⟩ := x
  exact ⟨ho _ d, z, ne, k _ _ (.inl rfl) e, mA, ⟨od, es, ep, k _ _ (.inr d) e2, c⟩, r⟩
 | own y => obtain ⟨ob, e⟩ := x; exact ⟨ob, k _ _ (.inl rfl) e⟩
 | xd fs => obtain ⟨mA, ⟨od, es, ep, e, c⟩, r⟩ := x; exact ⟨mA, ⟨od, es, ep, k _ _ (.inl rfl) e, c⟩, r⟩
 | rng lo hi => obtain ⟨t, u, v, e⟩ := x; exact ⟨t, u, v, k _ _ (.inl rfl) e⟩
 | frz ob u ih => obtain ⟨e, q⟩ := x; exact ⟨k _ _ (.inl rfl) e, ih q⟩
 | tbl ps =>
  obtain ⟨qs, e, t, f⟩ := x
  exact ⟨qs, k _ _ (.inl rfl) e, t, λpos v z => by
   obtain ⟨c, o, vs, q, t, t', e1, e2, r⟩ := f pos v z
   exact ⟨c, o, vs, q, t, t', e1, hf _ _ e2, r⟩⟩
 | met f y =>
  have e : h.get? a = some (methodObj (.ref f) (.ref y)) := x
  show h'.get? a = some (methodObj (.ref f) (.ref y))
  exact k a _ (.inl rfl) e
 | ext φ => obtain ⟨p, ⟨o, e⟩, st⟩ := x; exact ⟨st _ _ p λo q => k _ _ (.inl rfl) q, ⟨o, k _ _ (.inl rfl) e⟩, st⟩
theorem HOk.lt (x : HOk P w H h) (e : H a = some o) : a < h.objs.size := (x a o e).lt
theorem HOk.fresh (x : HOk P w H h) (e : h.objs.size <= a) : H a = none := by
 cases q : H a with
 | none => rfl
 | some u => exact absurd (Yo (x.lt q) e) (YF _)
theorem HOk.kept (x : HOk P w H h) (k : ∀ b u, h.get? b = some u -> h'.get? b = some u) : HOk P w H h' := λa o e =>
 (x a o e).stay (λb u _ q => k b u q) (λ_ q => q) λ_ _ q => q
theorem HOk.laid (x : HOk P w H h) (k : ∀ b u, h.get? b = some u -> h'.get? b = some u) (hp : h.objs.size <= a) (new : ObjOk P w (upd H a o) h' a o) : HOk P w (upd H a o) h' := λb u e => by
 have hn := x.fresh hp
 by_cases hb : b = a
 ·subst hb; rw [upd_same] at e; cases e; exact new
 ·rw [Ze hb] at e
  exact (x b u e).stay (λc v _ q => k c v q) (λc q => by rw [Ze (Zp q hn)]; exact q) (λc xs q => by rw [Ze (Zp q hn)]; exact q) λc o q => by rw [Ze (Zp q hn)]; exact q
end
def Rd (H : Hp) (a : Addr) (u : HO) : Prop := H a = some u \/ ∃ o, H a = some (.frz o u)
theorem Rd.of {H : Hp} {a : Addr} {u : HO} (h : H a = some u) : Rd H a u := .inl h
theorem Rd.ok {P : Program} {w : World} {H : Hp} {h : Heap} {a : Addr} {u : HO} (r : Rd H a u) (x : HOk P w H h) : ObjOk P w H h a u := by
 rcases r with r | ⟨o, r⟩
 ·exact x a u r
 ·obtain ⟨_, q⟩ := x a _ r
  exact q
def Mut : Option HO -> Prop
 | some (.lst _) => True
 | some (.dK _) => True
 | some (.dT _) => True
 | some (.set _ _) => True
 | some (.ins _ _ _) => True
 | some (.ext _) => True
 | _ => False
section
variable {P : Program} {w : World} {H : Hp} {h h' : Heap} {x e : Addr} {o' : HO}
def HOk.write (ok : HOk P w H h) (mu : Mut (H x)) (he : e = x \/ H e = some (.own x)) (k : ∀ b u, b ≠ e -> h.get? b = some u -> h'.get? b = some u) (heo : ∃ u, h'.get? e = some u)
  (new : ObjOk P w (upd H x o') h' x o') : HOk P w (upd H x o') h' := λb u q => by
 have nown : ∀ c y, H c = some (.own y) -> c ≠ x := λc y r z => by subst z; rw [r] at mu; exact mu
 have ntup : ∀ c xs, H c = some (.tup xs) -> c ≠ x := λc xs r z => by subst z; rw [r] at mu; exact mu
 by_cases hb : b = x
 ·subst hb; rw [upd_same] at q; cases q; exact new
 ·rw [Ze hb] at q
  by_cases hbe : b = e
  ·have q' : H b = some (.own x) := by
    rcases he with z | z
    ·exact absurd (hbe.trans z) hb
    ·rw [hbe]; exact z
   rw [q] at q'; cases q'
   obtain ⟨v, hv⟩ := heo
   exact ⟨v, by rw [hbe]; exact hv⟩
  ·refine (ok b u q).stay (λc v hc r => k c v ?_ r) (λc r => by rw [Ze (nown c b r)]; exact r) (λc xs r => by rw [Ze (ntup c xs r)]; exact r) λc o r => by rw [Ze λz => by subst z; rw [r] at mu; exact mu]; exact r
   rcases hc with rfl | hc
   ·exact hbe
   ·rintro rfl
    rcases he with z | z
    ·exact nown c b hc z
    ·rw [hc] at z; cases z; exact hb rfl
end
structure Un (fs ex : List Addr) (H H' : Hp) (h h' : Heap) : Prop where
 keep : ∀ b o, h.get? b = some o -> H b = none -> b ∉ fs -> b ∉ ex -> h'.get? b = some o
 slot : ∀ b o, h.get? b = some o -> H b = none -> b ∈ fs -> b ∉ ex -> ∃ sl, h'.get? b = some { o with slots := sl }
 free : ∀ b o, h.get? b = some o -> H b = none -> b ∉ ex -> H' b = none
 there : ∀ b o, h.get? b = some o -> b ∉ ex -> ∃ o', h'.get? b = some o'
 tups : ∀ b xs, H b = some (.tup xs) -> H' b = some (.tup xs)
 frzs : ∀ b o u, H b = some (.frz o u) -> H' b = some (.frz o u)
 tbls : ∀ b ps, H b = some (.tbl ps) -> ∃ more, H' b = some (.tbl (ps ++ more))
section
variable {fs fs' ex ex' : List Addr} {H H1 H2 : Hp} {h h1 h2 h' : Heap} {a x e : Addr} {o : HO}
theorem Un.any (u : Un fs ex H H1 h h1) {b : Addr} {ob : Obj} (q : h.get? b = some ob) (n : H b = none) (hx : b ∉ ex) : ∃ sl, h1.get? b = some { ob with slots := sl } := by
 by_cases hb : b ∈ fs
 ·exact u.slot b ob q n hb hx
 ·exact ⟨ob.slots, u.keep b ob q n hb hx⟩
theorem Un.trans (a : Un fs ex H H1 h h1) (b : Un fs ex H1 H2 h1 h2) : Un fs ex H H2 h h2 where
 keep := λc ob q n hc hx => b.keep c ob (a.keep c ob q n hc hx) (a.free c ob q n hx) hc hx
 slot := λc ob q n hc hx => by
  obtain ⟨sl, e1⟩ := a.slot c ob q n hc hx
  obtain ⟨sl', e2⟩ := b.slot c _ e1 (a.free c ob q n hx) hc hx
  exact ⟨sl', e2⟩
 free := λc ob q n hx => by
  obtain ⟨o', e1⟩ := a.there c ob q hx
  exact b.free c o' e1 (a.free c ob q n hx) hx
 there := λc ob q hx => by
  obtain ⟨o', e1⟩ := a.there c ob q hx
  exact b.there c o' e1 hx
 tups := λc xs q => b.tups c xs (a.tups c xs q)
 frzs := λc ob xs q => b.frzs c ob xs (a.frzs c ob xs q)
 tbls := λc ps q => by
  obtain ⟨m1, e1⟩ := a.tbls c ps q
  obtain ⟨m2, e2⟩ := b.tbls c _ e1
  exact ⟨m1 ++ m2, by rw [e2, Array.append_assoc]⟩
theorem Un.kept (k : ∀ b u, h.get? b = some u -> h'.get? b = some u) : Un fs ex H H h h' :=
 ⟨λb ob q _ _ _ => k b ob q, λb ob q _ _ _ => ⟨ob.slots, k b ob q⟩, λ_ _ _ n _ => n, λb ob q _ => ⟨ob, k b ob q⟩, λ_ _ q => q, λ_ _ _ q => q, λ_ ps q => ⟨#[], by rw [q]; simp⟩⟩
theorem Un.refl : Un fs ex H H h h := Un.kept λ_ _ q => q
theorem Un.laid (k : ∀ b u, h.get? b = some u -> h'.get? b = some u) (hp : h.objs.size <= a) (hn : H a = none) : Un fs ex H (upd H a o) h h' where
 keep := λb u q _ _ _ => k b u q
 slot := λb u q _ _ _ => ⟨u.slots, k b u q⟩
 free := λb u q n _ => by rw [Ze (Yl (Yo (Ye q) hp))]; exact n
 there := λb u q _ => ⟨u, k b u q⟩
 tups := λb xs q => by rw [Ze (Zp q hn)]; exact q
 frzs := λb u xs q => by rw [Ze (Zp q hn)]; exact q
 tbls := λb ps q => ⟨#[], by rw [Ze (Zp q hn), q]; simp⟩
def Un.write (mu : Mut (H x)) (he : e = x \/ H e = some (.own x)) (k : ∀ b u, b ≠ e -> h.get? b = some u -> h'.get? b = some u) (heo : ∃ u, h'.get? e = some u) : Un fs ex H (upd H x o) h h' := by
 have hx : ∀ b, H b = none -> b ≠ x := λb n z => by subst z; rw [n] at mu; exact mu
 have hb : ∀ b, H b = none -> b ≠ e := λb n z => by
  subst z
  rcases he with r | r
  ·exact hx b n r
  ·rw [n] at r; cases r
 have hm : ∀ b u, H b = some u -> ¬ Mut (some u) -> b ≠ x := λb u q nm z => by subst z; rw [q] at mu; exact nm mu
 refine ⟨λb u q n _ _ => k b u (hb b n) q, λb u q n _ _ => ⟨u.slots, k b u (hb b n) q⟩, λb u q n _ => by rw [Ze (hx b n)]; exact n, λb u q _ => ?_,
  λb xs q => by rw [Ze (hm b _ q λz => z)]; exact q, λb u xs q => by rw [Ze (hm b _ q λz => z)]; exact q, λb ps q => ⟨#[], by rw [Ze (hm b _ q λz => z), q]; simp⟩⟩
 by_cases hbe : b = e
 ·subst hbe; exact heo
 ·exact ⟨u, k b u hbe q⟩
theorem Un.mono (u : Un fs ex H H1 h h1) (hs : ∀ b ∈ fs, b ∈ fs') (hx : ∀ b ∈ ex, b ∈ ex') : Un fs' ex' H H1 h h1 :=
 ⟨λb ob q n hb he => u.keep b ob q n (λz => hb (hs b z)) λz => he (hx b z), λ_ _ q n _ he => u.any q n λz => he (hx _ z), λb ob q n he => u.free b ob q n λz => he (hx b z), λb ob q he => u.there b ob q λz => he (hx b z), u.tups, u.frzs, u.tbls⟩
end
def trk (h : Heap) (H : Hp) : List Addr := (List.range h.objs.size).filter λa => (H a).isSome
def Zl4 (h : Heap) (H : Hp) : Heap := hideAll h (trk h H)
theorem Zix (h : Heap) (H : Hp) : (Zl4 h H).objs.size = h.objs.size := PySem.W.hideAll_size _ _
def ZeG {h : Heap} {H : Hp} {b : Addr} {o : Obj} (e : h.get? b = some o) (n : H b = none) : (Zl4 h H).get? b = some o :=
 hideAll_get _ e λhm => by
  have q : (H b).isSome = true := (Yt.mp hm).2
  rw [n] at q; simp at q
theorem Zou {h : Heap} {H : Hp} {b : Addr} {o : Obj} (e : (Zl4 h H).get? b = some o) : h.get? b = some o /\ H b = none := by
 have e' : h.get? b = some o := of_hideAll (trk h H) e
 refine ⟨e', ?_⟩
 cases q : H b with
 | none => rfl
 | some x =>
  have hm : b ∈ trk h H := List.mem_filter.mpr ⟨List.mem_range.mpr (Heap.lt_size e'), by simp [q]⟩
  have z : (Zl4 h H).get? b = none := PySem.W.hideAll_none (trk h H) hm
  rw [z] at e; cases e
def ZnI (g h : Heap) (L : Addr) : List (Addr × Obj) := (List.range h.objs.size).filterMap λa => if a = L \/ (g.get? a).isSome = true then none else (h.get? a).map λo => (a, o)
def rest (g h : Heap) (L d : Addr) : List (Addr × Obj) := (ZnI g h L).filter λp => decide (p.1 ≠ d)
structure Mod (K : PySem.W.Frag) (mg : Str -> Option Value) (base : Heap) : Prop where
 kin : K.In base
 glob : base.Ns mainGlobals mg
 blt : ∃ mb, base.Ns builtinsNs mb /\ ∀ x : Str, x ≠ "__name__" -> mb x = bootBuiltins x
 nolimit : base.NoLimit
structure Cx where
 prog : Program
 w : World
 K : PySem.W.Frag
 mg : Str -> Option Value
 base : Heap
 A : Around
 N : List Str
 s₀ : Shared
 H₀ : Hp
 env : Env
 outer : List Env
 stack : List Env
 ex : List Addr
 fn : Str -> Bool
 calm : Bool
 pn : List (Addr × Obj)
 xe : Value -> Shared -> Prop
def frs (l : List Env) : List Addr := l.filterMap (·.frame)
abbrev Cx.fs (X : Cx) : List Addr := frs X.outer
def Vis (sc : Scope) (x : Str) : Prop := sc.names.lookup x = some .local \/ sc.names.lookup x = some .cell \/ sc.names.lookup x = some .free
def Loc (sc : Scope) (x : Str) : Prop := sc.names.lookup x = some .local \/ sc.names.lookup x = some .cell
def Zr9 (env : Env) (h : Heap) (m : Str -> Option Value) (x : Str) (u : Value) : Prop :=
 (env.kindOf x = some .local /\ m x = some u) \/ ((env.kindOf x = some .cell \/ env.kindOf x = some .free) /\ ∃ c, env.cells.lookup x = some c /\ h.IsCell c (some u))
structure Cx.Ok (X : Cx) : Prop where
 mod : Mod X.K X.mg X.base
 kind : X.env.scope.kind = .function
 glob : X.env.globals = mainGlobals
 blt : X.env.builtins = builtinsNs
 above : X.s₀.heap.objs.size <= X.env.locals
 inj : ∀ x y c, X.env.cells.lookup x = some c -> X.env.cells.lookup y = some c -> x = y
 has : ∀ x, (X.env.kindOf x = some .cell \/ X.env.kindOf x = some .free) -> ∃ c, X.env.cells.lookup x = some c
 cab : ∀ x c, X.fn x = true -> X.env.cells.lookup x = some c -> X.s₀.heap.objs.size <= c
 hd : X.calm = true -> X.A.handled = none
 frames : X.A.frames = some X.stack
 stk : X.stack = X.outer \/ (X.stack = X.env :: X.outer /\ X.env.frame = some X.env.locals)
 exf : ∀ b ∈ X.ex, b ≠ X.env.locals /\ ∀ x c, X.env.cells.lookup x = some c -> c ≠ b
 bs : ∀ b o, X.base.get? b = some o -> X.s₀.heap.get? b = some o /\ X.H₀ b = none
 bsz : X.base.objs.size <= X.s₀.heap.objs.size
 noex : ∀ b o, X.base.get? b = some o -> b ∉ X.ex
 exfs : ∀ b ∈ X.ex, b ∉ X.fs
 funs : X.s₀.heap.FunFrames X.base X.outer
 frf : ∀ b ∈ X.fs, X.H₀ b = none
structure Inv (X : Cx) (pins : List (Addr × Obj)) (Z : List (Option V)) (H : Hp) (s : Shared) : Prop where
 ok : X.Ok
 os : s.os = X.s₀.os
 bare : AllBare s.gens
 base : Un X.fs X.ex X.H₀ H X.s₀.heap s.heap
 loc : ∃ m, s.heap.Ns X.env.locals m /\ ∀ (i : Nat) (x : Str) (v : V), X.N[i]? = some x -> Z[i]? = some (some v) -> Vis X.env.scope x -> ∃ u, RelV v u /\ Zr9 X.env s.heap m x u
 cell : ∀ x c, X.env.cells.lookup x = some c -> ∃ v, s.heap.IsCell c v
 free : H X.env.locals = none
 freeC : ∀ x c, X.env.cells.lookup x = some c -> H c = none
 pin : ∀ p ∈ X.pn ++ pins, s.heap.get? p.1 = some p.2 /\ H p.1 = none /\ p.1 ≠ X.env.locals /\ p.1 ∉ X.fs /\ ∀ v, p.2.data ≠ .cell v
 hok : HOk X.prog X.w H s.heap
 len : Z.length = X.N.length
section
variable {X : Cx} {pins : List (Addr × Obj)} {Z : List (Option V)} {H H' : Hp} {s : Shared} {h' : Heap}
def Cx.Ok.nofr (ok : X.Ok) {b : Addr} {o : Obj} (e : X.base.get? b = some o) : b ∉ X.fs := λhb => by
 have := (ok.funs.mem hb).1
 rw [e] at this; cases this
theorem Inv.bs (I : Inv X pins Z H s) : ∀ b o, X.base.get? b = some o -> s.heap.get? b = some o /\ H b = none := λb o e =>
 ⟨I.base.keep b o (I.ok.bs b o e).1 (I.ok.bs b o e).2 (I.ok.nofr e) (I.ok.noex b o e), I.base.free b o (I.ok.bs b o e).1 (I.ok.bs b o e).2 (I.ok.noex b o e)⟩
def Inv.bk (I : Inv X pins Z H s) : ∀ b o, X.base.get? b = some o -> s.heap.get? b = some o := λb o e => (I.bs b o e).1
theorem Inv.mod (I : Inv X pins Z H s) : Mod X.K X.mg X.base := I.ok.mod
theorem Inv.kIn (I : Inv X pins Z H s) : X.K.In s.heap := I.ok.mod.kin.keeps I.bk
def Inv.nolimit (I : Inv X pins Z H s) : s.heap.NoLimit := I.ok.mod.nolimit.keeps I.bk
theorem Inv.fr (I : Inv X pins Z H s) : ∃ m, Fr X.base X.env.locals s.heap m :=
 let ⟨m, hn, _⟩ := I.loc
 ⟨m, hn, I.bk, Yh I.ok.bsz I.ok.above⟩
theorem Inv.lt (I : Inv X pins Z H s) : X.env.locals < s.heap.objs.size := let ⟨_, hn, _⟩ := I.loc; hn.lt
def Inv.sz (I : Inv X pins Z H s) : X.s₀.heap.objs.size <= s.heap.objs.size := Yh I.ok.above (Ys I.lt)
def Inv.nofs (I : Inv X pins Z H s) {a : Addr} (h : s.heap.objs.size <= a) : a ∉ X.fs := λhb => by
 obtain ⟨_, o, ho, _⟩ := I.ok.funs.mem hb
 exact absurd (Yo (Ye ho) (Yh I.sz h)) (YF _)
theorem Inv.cne (I : Inv X pins Z H s) : ∀ x c, X.env.cells.lookup x = some c -> c ≠ X.env.locals := λx c e z => by
 obtain ⟨v, o, ho, hd⟩ := I.cell x c e
 obtain ⟨m, ⟨o', es, ep, ho', hd', _⟩, _⟩ := I.loc
 rw [z, ho'] at ho; cases ho; rw [hd'] at hd; cases hd
theorem Inv.funs (I : Inv X pins Z H s) : s.heap.FunFrames X.base X.outer := by
 have all : ∀ (l : List Env), (∀ b ∈ frs l, b ∈ X.fs) -> X.s₀.heap.FunFrames X.base l -> s.heap.FunFrames X.base l := by
  intro l
  induction l with
  | nil => intro _ _; trivial
  | cons env r ih =>
   intro hs hl
   obtain ⟨hk, ⟨L, o, hf, hn, ho, hd⟩, hr⟩ := hl
   have hL : L ∈ X.fs := hs L (by unfold frs; rw [List.filterMap_cons, hf]; exact List.mem_cons_self)
   obtain ⟨sl, e⟩ := I.base.slot L o ho (I.ok.frf L hL) hL λz => I.ok.exfs L z hL
   exact ⟨hk, ⟨L, _, hf, hn, e, hd⟩, ih (λb hb => hs b (by unfold frs; rw [List.filterMap_cons, hf]; exact List.mem_cons_of_mem _ hb)) hr⟩
 exact all X.outer (λ_ hb => hb) I.ok.funs
def Inv.stack (I : Inv X pins Z H s) : s.heap.FunFrames X.base X.stack := by
 rcases I.ok.stk with e | ⟨e, hf⟩
 ·rw [e]; exact I.funs
 ·rw [e]
  obtain ⟨m, hn, _⟩ := I.loc
  refine .cons (by rw [I.ok.kind]; decide) hf hn ?_ I.funs
  exact Heap.get?_none_of_le (Yh I.ok.bsz I.ok.above)
def Inv.stkSub (I : Inv X pins Z H s) : ∀ b ∈ frs X.stack, b ∈ X.env.locals :: X.fs := λb hb => by
 rcases I.ok.stk with e | ⟨e, hf⟩
 ·rw [e] at hb; exact YZ _ hb
 ·rw [e] at hb
  unfold frs at hb
  rw [YaJ, hf] at hb
  exact hb
def Inv.stkFree (I : Inv X pins Z H s) : ∀ b ∈ frs X.stack, H b = none := λb hb => by
 rcases Ym.mp (I.stkSub b hb) with e | hb
 ·rw [e]; exact I.free
 ·obtain ⟨_, o, ho, _⟩ := I.ok.funs.mem hb
  exact I.base.free b o ho (I.ok.frf b hb) λz => I.ok.exfs b z hb
theorem Inv.step {g' : Array GenState} {t' : Nat} {d' : Drawn} {ch : List Addr} (I : Inv X pins Z H s)
  (hch : ∀ b ∈ ch, (b ∈ X.ex \/ X.s₀.heap.objs.size <= b) /\ b ≠ X.env.locals /\ (∀ x c, X.env.cells.lookup x = some c -> c ≠ b) /\ ∀ p ∈ X.pn ++ pins, p.1 ≠ b)
  (keep : ∀ b o, b ≠ X.env.locals -> b ∉ X.fs -> b ∉ ch -> s.heap.get? b = some o -> H b = none -> h'.get? b = some o)
  (slot : ∀ b o, b ≠ X.env.locals -> b ∈ X.fs -> b ∉ ch -> s.heap.get? b = some o -> H b = none -> ∃ sl, h'.get? b = some { o with slots := sl }) (free : ∀ b o, b ∉ ch -> s.heap.get? b = some o -> H b = none -> H' b = none)
  (there : ∀ b o, b ∉ ch -> s.heap.get? b = some o -> ∃ o', h'.get? b = some o')
  (tups : ∀ b xs, H b = some (.tup xs) -> H' b = some (.tup xs)) (frzs : ∀ b o u, H b = some (.frz o u) -> H' b = some (.frz o u)) (tbls : ∀ b ps, H b = some (.tbl ps) -> ∃ more, H' b = some (.tbl (ps ++ more)))
  (ns : ∀ m, s.heap.Ns X.env.locals m -> h'.Ns X.env.locals m) (hok : HOk X.prog X.w H' h') (hg : AllBare g') :
  Inv X pins Z H' { s with heap := h', gens := g', drawn := d', toks := t' } := by
 have neL : ∀ b o, X.s₀.heap.get? b = some o -> b ≠ X.env.locals := λb o e => Yl (Yo (Ye e) I.ok.above)
 have neC : ∀ b o, X.s₀.heap.get? b = some o -> b ∉ X.ex -> b ∉ ch := λb o e hx hb => by
  rcases (hch b hb).1 with z | z
  ·exact hx z
  ·exact absurd (Yo (Ye e) z) (YF _)
 have cellK : ∀ x c, X.env.cells.lookup x = some c -> ∀ v, s.heap.IsCell c v -> h'.IsCell c v := λx c e v ⟨o, ho, hd⟩ => by
  have nch : c ∉ ch := λz => (hch c z).2.2.1 x c e rfl
  by_cases hc : c ∈ X.fs
  ·obtain ⟨sl, q⟩ := slot c o (I.cne x c e) hc nch ho (I.freeC x c e)
   exact ⟨_, q, hd⟩
  ·exact ⟨o, keep c o (I.cne x c e) hc nch ho (I.freeC x c e), hd⟩
 refine ⟨I.ok, I.os, hg, ⟨λb o e n hb hx => ?_, λb o e n hb hx => ?_, λb o e n hx => ?_, λb o e hx => ?_, λb xs e => tups b xs (I.base.tups b xs e), λb o xs e => frzs b o xs (I.base.frzs b o xs e), λb ps e => ?_⟩, ?_, λx c e => ?_, ?_, λx c e => ?_, λp hp => ?_, hok, I.len⟩
 ·exact keep b o (neL b o e) hb (neC b o e hx) (I.base.keep b o e n hb hx) (I.base.free b o e n hx)
 ·obtain ⟨sl, e1⟩ := I.base.slot b o e n hb hx
  obtain ⟨sl', e2⟩ := slot b _ (neL b o e) hb (neC b o e hx) e1 (I.base.free b o e n hx)
  exact ⟨sl', e2⟩
 ·obtain ⟨o', e1⟩ := I.base.there b o e hx
  exact free b o' (neC b o e hx) e1 (I.base.free b o e n hx)
 ·obtain ⟨o', e1⟩ := I.base.there b o e hx
  exact there b o' (neC b o e hx) e1
 ·obtain ⟨m1, e1⟩ := I.base.tbls b ps e
  obtain ⟨m2, e2⟩ := tbls b _ e1
  exact ⟨m1 ++ m2, by rw [e2, Array.append_assoc]⟩
 ·obtain ⟨m, hn, hl⟩ := I.loc
  refine ⟨m, ns m hn, λi x v e1 e2 e3 => ?_⟩
  obtain ⟨u, r, l⟩ := hl i x v e1 e2 e3
  refine ⟨u, r, ?_⟩
  rcases l with l | ⟨k, c, e, z⟩
  ·exact .inl l
  ·exact .inr ⟨k, c, e, cellK x c e _ z⟩
 ·obtain ⟨v, z⟩ := I.cell x c e
  exact ⟨v, cellK x c e v z⟩
 ·obtain ⟨m, ⟨o, _, _, ho, _⟩, _⟩ := I.loc
  exact free _ o (λz => (hch _ z).2.1 rfl) ho I.free
 ·obtain ⟨v, o, ho, hd⟩ := I.cell x c e
  exact free c o (λz => (hch c z).2.2.1 x c e rfl) ho (I.freeC x c e)
 ·obtain ⟨e, n, ne, nf, d⟩ := I.pin p hp
  have nch : p.1 ∉ ch := λz => (hch p.1 z).2.2.2 p hp rfl
  exact ⟨keep p.1 p.2 ne nf nch e n, free p.1 p.2 nch e n, ne, nf, d⟩
theorem Inv.un {t' : Nat} (I : Inv X pins Z H s) (u : Un X.fs [] H H' s.heap h') (hok : HOk X.prog X.w H' h') : Inv X pins Z H' { s with heap := h', toks := t' } := by
 obtain ⟨m, ⟨o, es, ep, ho, r⟩, _⟩ := id I.loc
 obtain ⟨sl, hL⟩ := u.any ho I.free (by simp)
 exact I.step (g' := s.gens) (d' := s.drawn) (ch := []) (λ_ z => nomatch z) (λb o _ hb _ e n => u.keep b o e n hb (by simp)) (λb o _ hb _ e n => u.slot b o e n hb (by simp)) (λb o _ e n => u.free b o e n (by simp)) (λb o _ e => u.there b o e (by simp)) u.tups u.frzs u.tbls (λm' hm => by
  obtain ⟨o', es', ep', ho', r'⟩ := hm
  rw [ho] at ho'; cases ho'
  exact ⟨_, es', ep', hL, r'⟩) hok I.bare
theorem Inv.call {g' : Array GenState} {t' : Nat} {d' : Drawn} {ch : List Addr} (I : Inv X pins Z H s) (u : Un (frs X.stack) ch H H' s.heap h') (hok : HOk X.prog X.w H' h') (hg : AllBare g')
  (hch : ∀ b ∈ ch, (b ∈ X.ex \/ X.s₀.heap.objs.size <= b) /\ b ≠ X.env.locals /\ (∀ x c, X.env.cells.lookup x = some c -> c ≠ b) /\ ∀ p ∈ X.pn ++ pins, p.1 ≠ b) :
  Inv X pins Z H' { s with heap := h', gens := g', drawn := d', toks := t' } := by
 obtain ⟨m, ⟨o, es, ep, ho, r⟩, _⟩ := id I.loc
 obtain ⟨sl, hL⟩ := u.any ho I.free λz => (hch _ z).2.1 rfl
 exact I.step (ch := ch) hch (λb o hL hb hc e n => u.keep b o e n (λz => (Ym.mp (I.stkSub b z)).elim hL hb) hc) (λb o _ _ hc e n => u.any e n hc) (λb o hc e n => u.free b o e n hc) (λb o hc e => u.there b o e hc) u.tups u.frzs u.tbls (λm' hm => by
  obtain ⟨o', es', ep', ho', r'⟩ := hm
  rw [ho] at ho'; cases ho'
  exact ⟨_, es', ep', hL, r'⟩) hok hg
theorem Inv.turned {t' : Nat} {it : Addr} (I : Inv X pins Z H s) (k : ∀ b o, b ≠ it -> s.heap.get? b = some o -> h'.get? b = some o) (hn : H it = none) (hL : it ≠ X.env.locals)
  (h1 : it ∈ X.ex \/ X.s₀.heap.objs.size <= it) (h2 : ∀ x c, X.env.cells.lookup x = some c -> c ≠ it) (h3 : ∀ p ∈ X.pn ++ pins, p.1 ≠ it) : Inv X pins Z H { s with heap := h', toks := t' } := by
 have nit : ∀ b u, H b = some u -> b ≠ it := λb u e z => by rw [z, hn] at e; cases e
 refine I.step (g' := s.gens) (d' := s.drawn) (ch := [it]) (λb hb => ?_) (λb o _ _ hc e _ => k b o (λz => hc (by simp [z])) e) (λb o _ _ hc e _ => ⟨o.slots, k b o (λz => hc (by simp [z])) e⟩) (λ_ _ _ _ n => n)
  (λb o hc e => ⟨o, k b o (λz => hc (by simp [z])) e⟩) (λ_ _ e => e) (λ_ _ _ e => e) (λb ps e => ⟨#[], by rw [e]; simp⟩) (λm hm => ?_) (λb u e => ?_) I.bare
 ·have e : b = it := by simpa using hb
  subst e
  exact ⟨h1, hL, h2, h3⟩
 ·obtain ⟨o, es, ep, ho, r⟩ := hm
  exact ⟨o, es, ep, k _ o (Ne.symm hL) ho, r⟩
 ·refine (I.hok b u e).stay (λc v hc q => k c v ?_ q) (λ_ q => q) λ_ _ q => q
  rcases hc with z | z
  ·rw [z]; exact nit b u e
  ·exact nit c _ z
theorem Inv.tok (I : Inv X pins Z H s) (t : Nat) : Inv X pins Z H { s with toks := t } := I.un (h' := s.heap) (t' := t) Un.refl I.hok
theorem Inv.kept {t' : Nat} (I : Inv X pins Z H s) (k : ∀ b u, s.heap.get? b = some u -> h'.get? b = some u) : Inv X pins Z H { s with heap := h', toks := t' } := I.un (Un.kept k) (I.hok.kept k)
theorem Inv.laid {a : Addr} {o : HO} {t' : Nat} (I : Inv X pins Z H s) (k : ∀ b u, s.heap.get? b = some u -> h'.get? b = some u) (hp : s.heap.objs.size <= a) (new : ObjOk X.prog X.w (upd H a o) h' a o) :
  Inv X pins Z (upd H a o) { s with heap := h', toks := t' } := I.un (Un.laid k hp (I.hok.fresh hp)) (I.hok.laid k hp new)
def Inv.write {x e : Addr} {o : HO} {t' : Nat} (I : Inv X pins Z H s) (mu : Mut (H x)) (he : e = x \/ H e = some (.own x)) (k : ∀ b u, b ≠ e -> s.heap.get? b = some u -> h'.get? b = some u) (heo : ∃ u, h'.get? e = some u)
  (new : ObjOk X.prog X.w (upd H x o) h' x o) : Inv X pins Z (upd H x o) { s with heap := h', toks := t' } := I.un (Un.write mu he k heo) (I.hok.write mu he k heo new)
def Inv.pins_of {pins' : List (Addr × Obj)} (I : Inv X pins Z H s) (h : ∀ p ∈ pins', s.heap.get? p.1 = some p.2 /\ H p.1 = none /\ p.1 ≠ X.env.locals /\ p.1 ∉ X.fs /\ ∀ v, p.2.data ≠ .cell v) : Inv X pins' Z H s :=
 ⟨I.ok, I.os, I.bare, I.base, I.loc, I.cell, I.free, I.freeC, λp hp => (Yu.mp hp).elim (λz => I.pin p (Vt _ z)) (h p), I.hok, I.len⟩
def ZeH {N : List Str} (hN : N.Nodup) {i j : Nat} {x : Str} (a : N[i]? = some x) (b : N[j]? = some x) : i = j := by
 obtain ⟨h1, e1⟩ := Yj.mp a
 obtain ⟨h2, e2⟩ := Yj.mp b
 exact (List.getElem_inj hN).mp (e1.trans e2.symm)
def Zkk {M : Model} {A : Around} {E : Value -> Shared -> Prop} {i : Nat} {x : Str} {v : V} {u : Value} {Q : Unit -> Shared -> Prop} (I : Inv X pins Z H s) (hN : X.N.Nodup) (hi : X.N[i]? = some x) (hx : Loc X.env.scope x) (r : RelV v u)
  (h : ∀ s', Inv X pins (Z.set i (some v)) H s' -> (∃ a, Heap.SameBut a s.heap s'.heap /\ (a = X.env.locals \/ X.env.cells.lookup x = some a)) -> Q () s') (hf : X.fn x = true \/ X.env.scope.names.lookup x = some .local := by first | exact .inl rfl | exact .inr rfl | assumption) : wpAny M A (storeName X.env x u) Q E s := by
 obtain ⟨m, hn, hl⟩ := id I.loc
 have hcls : (X.env.scope.kind == .class || (X.env.scope.kind == .module && X.env.locals != X.env.globals)) = false := by rw [I.ok.kind]; rfl
 have hiZ : i < Z.length := by rw [I.len]; exact (Yj.mp hi).1
 have cne := I.cne
 have tracked : ∀ {a : Addr} {h' : Heap}, (∃ o, s.heap.get? a = some o /\ H a = none) -> Heap.SameBut a s.heap h' -> HOk X.prog X.w H h' := λ{a h'} ha hs b ob e => by
  obtain ⟨_, _, hfree⟩ := ha
  refine (I.hok b ob e).stay (λc w' hc q => (hs.2 c ?_).trans q) (λ_ q => q) λ_ _ q => q
  rintro rfl
  rcases hc with rfl | hc
  ·rw [hfree] at e; cases e
  ·rw [hfree] at hc; cases hc
 rcases hx with hk | hk
 ·refine wpAny_storeName_local hk hn (λh' hn' hs => ?_) hcls
  obtain ⟨oL, _, _, hoL, _⟩ := id hn
  refine h _ ⟨I.ok, I.os, I.bare, ⟨λb o e n hb hx => ?_, λb o e n hb hx => ?_, I.base.free, λb o e hx => ?_, I.base.tups, I.base.frzs, I.base.tbls⟩, ⟨_, hn', λj y v' e1 e2 e3 => ?_⟩, λy c e => ?_, I.free, I.freeC, λp hp => ?_, tracked ⟨oL, hoL, I.free⟩ hs, by simpa using I.len⟩ ⟨_, hs, .inl rfl⟩
  ·exact (hs.2 b (Yl (Yo (Ye e) I.ok.above))).trans (I.base.keep b o e n hb hx)
  ·obtain ⟨sl, e1⟩ := I.base.slot b o e n hb hx
   exact ⟨sl, (hs.2 b (Yl (Yo (Ye e) I.ok.above))).trans e1⟩
  ·obtain ⟨o', e1⟩ := I.base.there b o e hx
   exact ⟨o', (hs.2 b (Yl (Yo (Ye e) I.ok.above))).trans e1⟩
  ·by_cases hj : j = i
   ·subst hj
    rw [hi] at e1; cases e1
    rw [Yao hiZ] at e2
    cases e2
    exact ⟨u, r, .inl ⟨hk, by simp⟩⟩
   ·rw [Yaq (Ne.symm hj)] at e2
    obtain ⟨u', r', q⟩ := hl j y v' e1 e2 e3
    refine ⟨u', r', ?_⟩
    rcases q with ⟨k, e⟩ | ⟨k, c, e, z⟩
    ·refine .inl ⟨k, ?_⟩
     have : y ≠ x := λe => hj (ZeH hN e1 (e ▸ hi))
     simp [this, e]
    ·exact .inr ⟨k, c, e, z.sameBut hs (cne y c e)⟩
  ·obtain ⟨w', z⟩ := I.cell y c e
   exact ⟨w', z.sameBut hs (cne y c e)⟩
  ·obtain ⟨e, n, ne, nf, d⟩ := I.pin p hp
   exact ⟨(hs.2 p.1 ne).trans e, n, ne, nf, d⟩
 ·have hfn : X.fn x = true := by
   rcases hf with z | z
   ·exact z
   ·rw [z] at hk; cases hk
  obtain ⟨c, hc⟩ := I.ok.has x (.inl hk)
  obtain ⟨w', z⟩ := I.cell x c hc
  refine wpAny_storeName_cell I.ok.kind hk hc z (λh' hc' hs => ?_)
  obtain ⟨oc, hoc, hocd⟩ := id z
  refine h { s with heap := h' } ⟨I.ok, I.os, I.bare, ⟨λb o e n hb hx => ?_, λb o e n hb hx => ?_, I.base.free, λb o e hx => ?_, I.base.tups, I.base.frzs, I.base.tbls⟩, ⟨m, hn.sameBut hs (Ne.symm (cne x c hc)), λj y v' e1 e2 e3 => ?_⟩, λy c' e => ?_, I.free, I.freeC, λp hp => ?_, tracked ⟨oc, hoc, I.freeC x c hc⟩ hs, by simpa using I.len⟩ ⟨c, hs, .inr hc⟩
  ·exact (hs.2 b (Yl (Yo (Ye e) (I.ok.cab x c hfn hc)))).trans (I.base.keep b o e n hb hx)
  ·obtain ⟨sl, e1⟩ := I.base.slot b o e n hb hx
   exact ⟨sl, (hs.2 b (Yl (Yo (Ye e) (I.ok.cab x c hfn hc)))).trans e1⟩
  ·obtain ⟨o', e1⟩ := I.base.there b o e hx
   exact ⟨o', (hs.2 b (Yl (Yo (Ye e) (I.ok.cab x c hfn hc)))).trans e1⟩
  ·by_cases hj : j = i
   ·subst hj
    rw [hi] at e1; cases e1
    rw [Yao hiZ] at e2
    cases e2
    exact ⟨u, r, .inr ⟨.inl hk, c, hc, hc'⟩⟩
   ·rw [Yaq (Ne.symm hj)] at e2
    obtain ⟨u', r', q⟩ := hl j y v' e1 e2 e3
    refine ⟨u', r', ?_⟩
    rcases q with q | ⟨k, c', e, z'⟩
    ·exact .inl q
    ·refine .inr ⟨k, c', e, z'.sameBut hs ?_⟩
     rintro rfl
     exact hj (ZeH hN e1 (I.ok.inj _ _ _ e hc ▸ hi))
  ·by_cases hcc : c' = c
   ·subst hcc; exact ⟨_, hc'⟩
   ·obtain ⟨w2, z2⟩ := I.cell y c' e
    exact ⟨w2, z2.sameBut hs hcc⟩
  ·obtain ⟨e, n, ne, nf, d⟩ := I.pin p hp
   refine ⟨(hs.2 p.1 ?_).trans e, n, ne, nf, d⟩
   intro q
   rw [q, hoc] at e
   have q' : oc = p.2 := YR e
   exact d w' (by rw [<- q']; exact hocd)
def ZbW {M : Model} {A : Around} {E : Value -> Shared -> Prop} {i : Nat} {x : Str} {v : V} {u : Value} {Q : Unit -> Shared -> Prop} (I : Inv X pins Z H s) (hN : X.N.Nodup) (hi : X.N[i]? = some x) (hx : Loc X.env.scope x) (r : RelV v u)
  (h : ∀ s', Inv X pins (Z.set i (some v)) H s' -> Q () s') (hf : X.fn x = true \/ X.env.scope.names.lookup x = some .local := by first | exact .inl rfl | exact .inr rfl | assumption) : wpAny M A (storeName X.env x u) Q E s :=
 Zkk I hN hi hx r (λs' I' _ => h s' I') hf
def Inv.call' {s' : Shared} {ch : List Addr} (I : Inv X pins Z H s) (ho : s'.os = s.os) (u : Un (frs X.stack) ch H H' s.heap s'.heap) (hok : HOk X.prog X.w H' s'.heap) (hg : AllBare s'.gens)
  (hch : ∀ b ∈ ch, (b ∈ X.ex \/ X.s₀.heap.objs.size <= b) /\ b ≠ X.env.locals /\ (∀ x c, X.env.cells.lookup x = some c -> c ≠ b) /\ ∀ p ∈ X.pn ++ pins, p.1 ≠ b) : Inv X pins Z H' s' := by
 obtain ⟨h', g', d', t', o'⟩ := s'
 have e : o' = s.os := ho
 subst e
 exact I.call (g' := g') (t' := t') (d' := d') u hok hg hch
end
abbrev XK := Value -> Option Addr -> Hp -> Prop
abbrev St := List (Option V)
abbrev VK := V -> Hp -> Prop
abbrev TE := St -> Hp -> VK -> Prop
abbrev TT := St -> Hp -> (Bool -> Hp -> Prop) -> Prop
abbrev TA := St -> Hp -> (List V -> Hp -> Prop) -> Prop
structure Ends where
 nx : St -> Hp -> Prop
 rt : VK
 bk : St -> Hp -> Prop := λ_ _ => False
 ct : St -> Hp -> Prop := λ_ _ => False
abbrev TS := Ends -> St -> Hp -> Prop
def EP (X : Cx) (pins : List (Addr × Obj)) (Z : St) (Q : VK) (u : Value) (s' : Shared) : Prop := ∃ v H', Inv X pins Z H' s' /\ RelV v u /\ Q v H'
def TP (X : Cx) (pins : List (Addr × Obj)) (Z : St) (Q : Bool -> Hp -> Prop) (b : Bool) (s' : Shared) : Prop := ∃ H', Inv X pins Z H' s' /\ Q b H'
def AP (X : Cx) (pins : List (Addr × Obj)) (Z : St) (Q : List V -> Hp -> Prop) (us : List Value) (s' : Shared) : Prop := ∃ vs H', Inv X pins Z H' s' /\ Vals vs us /\ Q vs H'
def SP (X : Cx) (pins : List (Addr × Obj)) (D : Ends) (f : Flow) (s' : Shared) : Prop :=
 match f with
 | .next => ∃ Z' H', Inv X pins Z' H' s' /\ D.nx Z' H'
 | .brk => ∃ Z' H', Inv X pins Z' H' s' /\ D.bk Z' H'
 | .cont => ∃ Z' H', Inv X pins Z' H' s' /\ D.ct Z' H'
 | .ret u => ∃ v Z' H', Inv X pins Z' H' s' /\ RelV v u /\ D.rt v H'
def PE (X : Cx) (e : Expr) (t : TE) : Prop :=
 ∀ (pins : List (Addr × Obj)) (s : Shared) (Z : St) (H : Hp) (Q : VK), Inv X pins Z H s -> t Z H Q -> wpAny (model X.prog X.w) X.A (eval e X.env) (EP X pins Z Q) X.xe s
def PT (X : Cx) (e : Expr) (t : TT) : Prop :=
 ∀ (pins : List (Addr × Obj)) (s : Shared) (Z : St) (H : Hp) (Q : Bool -> Hp -> Prop), Inv X pins Z H s -> t Z H Q -> wpAny (model X.prog X.w) X.A (isTrue e X.env (eval e X.env)) (TP X pins Z Q) X.xe s
def PW (X : Cx) (e : Expr) (t : TT) : Prop :=
 ∀ (whole : Sem Value) (pins : List (Addr × Obj)) (s : Shared) (Z : St) (H : Hp) (Q : Bool -> Hp -> Prop), Inv X pins Z H s -> t Z H Q -> wpAny (model X.prog X.w) X.A (isTrue e X.env whole) (TP X pins Z Q) X.xe s
theorem PW.pt {X : Cx} {e : Expr} {t : TT} (h : PW X e t) : PT X e t := h _
def PA (X : Cx) (es : List Expr) (t : TA) : Prop :=
 ∀ (pos : Pos) (pins : List (Addr × Obj)) (s : Shared) (Z : St) (H : Hp) (Q : List V -> Hp -> Prop), Inv X pins Z H s -> t Z H Q -> wpAny (model X.prog X.w) X.A (spliced (backTo pos (starEach es X.env))) (AP X pins Z Q) X.xe s
def PS (X : Cx) (st : Stmt) (t : TS) : Prop :=
 ∀ (pins : List (Addr × Obj)) (s : Shared) (Z : St) (H : Hp) (D : Ends), Inv X pins Z H s -> t D Z H -> wpAny (model X.prog X.w) X.A (exec st X.env) (SP X pins D) X.xe s
def PSs (X : Cx) (st : List Stmt) (t : TS) : Prop :=
 ∀ (pins : List (Addr × Obj)) (s : Shared) (Z : St) (H : Hp) (D : Ends), Inv X pins Z H s -> t D Z H -> wpAny (model X.prog X.w) X.A (execs st X.env) (SP X pins D) X.xe s
def ZR {α : Type} {t : Sem α} {Q Q' : α -> Shared -> Prop} {M : Model} {A : Around} {E : Value -> Shared -> Prop} {s : Shared} (h : wpAny M A t Q E s) (hQ : ∀ a s, Q a s -> Q' a s) : wpAny M A t Q' E s := Yp h hQ λ_ _ x => x
section
variable {X : Cx}
def Zoa (i : Nat) : TE := λZ H Q => ∃ v, Z[i]? = some (some v) /\ Q v H
def tC (v : V) : TE := λ_ H Q => Q v H
def ZmJ {i : Nat} {x : Str} {pos : Pos} (hN : X.N[i]? = some x) (hv : Vis X.env.scope x) (hd : (x == ("__debug__" : Str)) = false := by decide) (hcd : (x == ("__classdict__" : Str)) = false := by decide) : PE X (.Name x pos) (Zoa i) := by
 intro pins s Z H Q I h
 obtain ⟨v, e, h⟩ := h
 obtain ⟨m, hn, hl⟩ := I.loc
 obtain ⟨u, r, l⟩ := hl i x v hN e hv
 have fin : EP X pins Z Q u s := ⟨v, H, I, r, h⟩
 rcases l with ⟨hk, hm⟩ | ⟨hk, c, hc, hcell⟩
 ·exact wpAny_Name (wpAny_loadName_local I.ok.kind hk hn hm fin) hd
 ·rcases hk with hk | hk
  ·exact wpAny_Name (wpAny_loadName_cell I.ok.kind hk hc hcell fin) hd
  ·exact wpAny_Name (wpAny_loadName_free I.ok.kind hk hc hcell fin hcd) hd
def Zpy {i j pos} : PE X (.Constant (.int i) j pos) (tC (.int i)) := λ_ _ _ H _ I h => wpAny_Constant_int ⟨.int i, H, I.tok _, ⟨_, rfl⟩, h⟩
def ZqW {b j pos} : PE X (.Constant (.bool b) j pos) (tC (.bl b)) := λ_ _ _ H _ I h => Constant_bool ⟨.bl b, H, I, rfl, h⟩
def Zqm {j pos} : PE X (.Constant .none j pos) (tC .non) := λ_ _ _ H _ I h => Constant_none ⟨.non, H, I, rfl, h⟩
def Zp6 {x j pos} : PE X (.Constant (.str x) j pos) (tC (.str x)) := λ_ _ _ H _ I h => Calls.Constant_str ⟨.str x, H, I.tok _, ⟨_, rfl⟩, h⟩
def Gl (X : Cx) (x : Str) : Prop := X.env.kindOf x = some .globalImplicit
def Zco {E : Value -> Shared -> Prop} {pins : List (Addr × Obj)} {s : Shared} {Z : St} {H : Hp} {x : Str} {u : Value} {pos : Pos} {Q : Value -> Shared -> Prop} (I : Inv X pins Z H s) (hg : Gl X x) (hm : X.mg x = some u) (h : Q u s)
  (hd : (x == ("__debug__" : Str)) = false := by decide) : wpAny (model X.prog X.w) X.A (eval (.Name x pos) X.env) Q E s :=
 Calls.Name_function_global I.ok.kind hg (Calls.loadGlobal_global (by rw [I.ok.glob]; exact I.mod.glob.keeps I.bk) hm h) hd
def Jp {E : Value -> Shared -> Prop} {pins : List (Addr × Obj)} {s : Shared} {Z : St} {H : Hp} {x : Str} {u : Value} {pos : Pos} {Q : Value -> Shared -> Prop} (I : Inv X pins Z H s) (hg : Gl X x) (hm : X.mg x = none) (hv : bootBuiltins x = some u) (h : Q u s)
  (hn : x ≠ "__name__" := by decide) (hd : (x == ("__debug__" : Str)) = false := by decide) : wpAny (model X.prog X.w) X.A (eval (.Name x pos) X.env) Q E s := by
 obtain ⟨mb, h1, h2⟩ := I.mod.blt
 exact Calls.Name_function_global I.ok.kind hg (Calls.loadGlobal_builtin (by rw [I.ok.glob]; exact I.mod.glob.keeps I.bk) hm (by rw [I.ok.blt]; exact h1.keeps I.bk) ((h2 x hn).trans hv) h) hd
def Zjz {x : Str} {v : V} {u : Value} {pos : Pos} (hg : Gl X x) (hm : X.mg x = some u) (r : RelV v u) (hd : (x == ("__debug__" : Str)) = false := by decide) : PE X (.Name x pos) (tC v) :=
 λ_ _ _ H _ I h => Zco I hg hm ⟨v, H, I, r, h⟩ hd
def ZnF {x : Str} {v : V} {u : Value} {pos : Pos} (hg : Gl X x) (hm : X.mg x = none) (hv : bootBuiltins x = some u) (r : RelV v u) (hn : x ≠ "__name__" := by decide) (hd : (x == ("__debug__" : Str)) = false := by decide) : PE X (.Name x pos) (tC v) :=
 λ_ _ _ H _ I h => Jp I hg hm hv ⟨v, H, I, r, h⟩ hn hd
variable {a b : Expr} {ta tb : TE} {pos : Pos}
def PC (X : Cx) (op : CmpOp) (a b : Expr) (t : TE) : Prop :=
 ∀ (pins : List (Addr × Obj)) (s : Shared) (Z : St) (H : Hp) (Q : VK), Inv X pins Z H s -> t Z H Q ->
  wpAny (model X.prog X.w) X.A (eval a X.env) (λv s₁ => wpAny (model X.prog X.w) X.A (eval b X.env) (λu s₂ => wpAny (model X.prog X.w) X.A (compareOp op v u) (EP X pins Z Q) X.xe s₂) X.xe s₁) X.xe s
def ZlA (b : Expr) {op : CmpOp} (h : op ≠ .In) (h2 : op ≠ .NotIn) : behindInMarks op b = false := by
 have e1 : (op == CmpOp.In) = false := by cases op <;> first | rfl | exact absurd rfl h
 have e2 : (op == CmpOp.NotIn) = false := by cases op <;> first | rfl | exact absurd rfl h2
 cases b <;> simp [behindInMarks, e1, e2]
def tB (t : TE) : TT := λZ H Q => t Z H λx H1 => ∃ c, x = .bl c /\ Q c H1
def ZpZ {op : CmpOp} {t : TE} (h : PC X op a b t) (h1 : behindInMarks op b = false := by first | exact ZlA _ (by decide) (by decide) | rfl) : PT X (.Compare a [op] [b] pos) (tB t) := by
 intro pins s Z H Q I hw
 refine wpAny_isTrue_Compare1 (ZR (h pins s Z H _ I hw) λv s1 h1 => ZR h1 λu s2 h2 => ZR h2 λc s3 ⟨x, H1, I1, r1, q1⟩ => ?_) h1
 obtain ⟨d, rfl, q⟩ := q1
 cases r1
 exact Vy ⟨H1, I1, q⟩
def ZoW {e : Expr} {t : TE} (h : PE X e t) (he : ∀ whole, isTrue e X.env whole = (do let v <- whole; standAt e.pos; holding [v] (truthy v)) := by intro _; rfl) : PT X e (tB t) := by
 intro pins s Z H Q I hw
 refine isTrue_plain (ZR (h pins s Z H _ I hw) λv s1 ⟨x, H1, I1, r1, q1⟩ => ?_) (he _)
 obtain ⟨d, rfl, q⟩ := q1
 cases r1
 exact Vy ⟨H1, I1, q⟩
variable {tA tB' : TT} {rest : List Expr}
def ZrP (t u : TT) : TT := λZ H Q => t Z H λc H1 => if c = true then u Z H1 Q else Q false H1
def tOr (t u : TT) : TT := λZ H Q => t Z H λc H1 => if c = true then Q true H1 else u Z H1 Q
def ZqP (t : TT) : TT := λZ H Q => t Z H λc H1 => Q (!c) H1
def Zp1 (ha : PT X a tA) : PW X (.BoolOp .Or [a] pos) tA := by
 intro wh pins s Z H Q I h
 refine isTrue_or (ZR (ha pins s Z H Q I h) λc s1 e => ?_)
 cases c with
 | false => exact isTrue_or_nil e
 | true => exact e
def Zri (ha : PT X a tA) (hb : PW X (.BoolOp .Or (b :: rest) pos) tB') : PW X (.BoolOp .Or (a :: b :: rest) pos) (tOr tA tB') := by
 intro wh pins s Z H Q I h
 refine isTrue_or (ZR (ha pins s Z H _ I h) λc s1 ⟨H1, I1, q1⟩ => ?_)
 cases c with
 | true => exact ⟨H1, I1, q1⟩
 | false => exact hb wh pins s1 Z H1 Q I1 q1
def Zpj (ha : PT X a tA) : PT X (.UnaryOp .Not a pos) (ZqP tA) := by
 intro pins s Z H Q I h
 exact isTrue_not (ha pins s Z H (λc H1 => Q (!c) H1) I h)
def Zkz (ta tb : TE) : TE := λZ H Q => ta Z H λx H1 => ∃ c, x = .bl c /\ if c = true then tb Z H1 Q else Q (.bl false) H1
def ZrI (ta tb : TE) : TE := λZ H Q => ta Z H λx H1 => ∃ c, x = .bl c /\ if c = true then Q (.bl true) H1 else tb Z H1 Q
def ZkB (ta : TE) : TE := λZ H Q => ta Z H λx H1 => ∃ c, x = .bl c /\ Q (.bl (!c)) H1
def Zqs {op} {t : TE} (h : PE X a t) : PE X (.BoolOp op [a] pos) t := λpins s Z H Q I hw => BoolOp_one (h pins s Z H Q I hw)
def Zp0 (ha : PE X a ta) (hb : PE X (.BoolOp .And (b :: rest) pos) tb) : PE X (.BoolOp .And (a :: b :: rest) pos) (Zkz ta tb) := by
 intro pins s Z H Q I h
 refine BoolOp_and (ZR (ha pins s Z H _ I h) λv s1 ⟨x, H1, I1, r1, q1⟩ => ?_)
 obtain ⟨c, rfl, q1⟩ := q1
 cases r1
 refine Vy ?_
 cases c with
 | true => exact hb pins s1 Z H1 Q I1 q1
 | false => exact ⟨.bl false, H1, I1, rfl, q1⟩
def Zqq (ha : PE X a ta) : PE X (.UnaryOp .Not a pos) (ZkB ta) := by
 intro pins s Z H Q I h
 refine UnaryOp_ (ZR (ha pins s Z H _ I h) λv s1 ⟨x, H1, I1, r1, q1⟩ => ?_)
 obtain ⟨c, rfl, q1⟩ := q1
 cases r1
 exact not_of (Vy ⟨.bl (!c), H1, I1, rfl, q1⟩)
def tIf (t : TT) (ta tb : TE) : TE := λZ H Q => t Z H λc H1 => if c = true then ta Z H1 Q else tb Z H1 Q
def Zmp {c : Expr} (hc : PT X c tA) (ha : PE X a ta) (hb : PE X b tb) : PE X (.IfExp c a b pos) (tIf tA ta tb) := by
 intro pins s Z H Q I h
 refine wpAny_IfExp (ZR (hc pins s Z H _ I h) λd s1 ⟨H1, I1, q1⟩ => ?_)
 cases d with
 | true => exact ha pins s1 Z H1 Q I1 q1
 | false => exact hb pins s1 Z H1 Q I1 q1
end
def SqL (K : PySem.W.Frag) (H : Hp) (a : Addr) (xs : List V) : Prop :=
 Rd H a (.lst xs) \/
  ∃ (o : Obj) (its : Array Value) (n : Nat), K.lookup a = some o /\ o.cls = .type "list" /\ o.dict = none /\ o.data = .seq its n /\ its.size <= sizeLine /\ Vals xs its.toList
def SqT (K : PySem.W.Frag) (H : Hp) (a : Addr) (xs : List V) : Prop :=
 Rd H a (.tup xs) \/
  ∃ (o : Obj) (its : Array Value) (n : Nat), K.lookup a = some o /\ o.cls = .type "tuple" /\ o.data = .seq its n /\ its.size <= sizeLine /\ Vals xs its.toList
def Zse : Value -> Option V
 | .none => some .non
 | .bool b => some (.bl b)
 | .int i _ => some (.int i)
 | .str x _ => some (.str x)
 | .bytes b _ => some (.byt b)
 | .float b _ => some (.flt b)
 | .ref a => some (.ref a)
 | .type n => some (.ty n)
 | _ => none
def RelV.abs {x : V} {u : Value} (r : RelV x u) : Zse u = some x := by
 cases x with
 | non => cases r; rfl
 | bl _ => cases r; rfl
 | int _ => obtain ⟨t, rfl⟩ := r; rfl
 | str _ => obtain ⟨t, rfl⟩ := r; rfl
 | byt _ => obtain ⟨t, rfl⟩ := r; rfl
 | flt _ => obtain ⟨t, rfl⟩ := r; rfl
 | ref _ => cases r; rfl
 | ty _ => cases r; rfl
def RelV.inj {x y : V} {u : Value} (r : RelV x u) (q : RelV y u) : x = y := YR (r.abs.symm.trans q.abs)
def Vals.inj : ∀ {xs ys : List V} {us : List Value}, Vals xs us -> Vals ys us -> xs = ys
 | _, _, _, .nil, .nil => rfl
 | _, _, _, .cons r t, .cons r' t' => by rw [r.inj r', Vals.inj t t']
section
variable {X : Cx} {pins : List (Addr × Obj)} {Z : St} {H : Hp} {s : Shared} {a : Addr} {xs ys : List V}
theorem SqL.of {K : PySem.W.Frag} (h : H a = some (.lst xs)) : SqL K H a xs := .inl (.inl h)
theorem SqT.of {K : PySem.W.Frag} (h : H a = some (.tup xs)) : SqT K H a xs := .inl (.inl h)
theorem Inv.list (I : Inv X pins Z H s) (h : SqL X.K H a xs) : ∃ its : List Value, Vals xs its /\ PlainL s.heap a its.toArray /\ xs.length <= sizeLine := by
 rcases h with h | ⟨o, its, n, hk, hc, hd, hs, hz, r⟩
 ·obtain ⟨z, its, n, r, e⟩ := h.ok I.hok
  exact ⟨its, r, ⟨_, n, e, rfl, rfl, rfl⟩, z⟩
 ·refine ⟨its.toList, r, ⟨o, n, I.kIn a o hk, hc, hd, by simpa using hs⟩, ?_⟩
  have e := r.length
  simp only [Array.length_toList] at e
  omega
theorem Inv.tuple (I : Inv X pins Z H s) (h : SqT X.K H a xs) : ∃ its : List Value, Vals xs its /\ IsTup s.heap a its.toArray /\ xs.length <= sizeLine := by
 rcases h with h | ⟨o, its, n, hk, hc, hs, hz, r⟩
 ·obtain ⟨z, its, r, p⟩ := h.ok I.hok
  exact ⟨its, r, p, z⟩
 ·refine ⟨its.toList, r, ⟨o, I.kIn a o hk, hc, n, by simpa using hs⟩, ?_⟩
  have e := r.length
  simp only [Array.length_toList] at e
  omega
def Inv.list_inj (I : Inv X pins Z H s) (h : SqL X.K H a xs) (h' : SqL X.K H a ys) : xs = ys := by
 obtain ⟨its, r, ⟨o, n, e, _, _, d⟩, _⟩ := I.list h
 obtain ⟨its', r', ⟨o', n', e', _, _, d'⟩, _⟩ := I.list h'
 rw [e] at e'; cases e'
 rw [d] at d'
 injection d' with d1 _
 have : its = its' := by simpa using congrArg Array.toList d1
 subst this
 exact r.inj r'
def Inv.tuple_inj (I : Inv X pins Z H s) (h : SqT X.K H a xs) (h' : SqT X.K H a ys) : xs = ys := by
 obtain ⟨its, r, ⟨o, e, _, n, d⟩, _⟩ := I.tuple h
 obtain ⟨its', r', ⟨o', e', _, n', d'⟩, _⟩ := I.tuple h'
 rw [e] at e'; cases e'
 rw [d] at d'
 injection d' with d1 _
 have : its = its' := by simpa using congrArg Array.toList d1
 subst this
 exact r.inj r'
end
abbrev Cx.wish (X : Cx) (E : Value -> Shared -> Prop) : Cx := { X with xe := E }
abbrev Cx.nox (X : Cx) : Cx := X.wish λ_ _ => False
def Cx.Ok.wish {X : Cx} (ok : X.Ok) (E : Value -> Shared -> Prop) : (X.wish E).Ok :=
 ⟨ok.mod, ok.kind, ok.glob, ok.blt, ok.above, ok.inj, ok.has, ok.cab, ok.hd, ok.frames, ok.stk, ok.exf, ok.bs, ok.bsz, ok.noex, ok.exfs, ok.funs, ok.frf⟩
def Cx.Ok.unwish {X : Cx} {E : Value -> Shared -> Prop} (ok : (X.wish E).Ok) : X.Ok :=
 ⟨ok.mod, ok.kind, ok.glob, ok.blt, ok.above, ok.inj, ok.has, ok.cab, ok.hd, ok.frames, ok.stk, ok.exf, ok.bs, ok.bsz, ok.noex, ok.exfs, ok.funs, ok.frf⟩
section
variable {X : Cx} {pins : List (Addr × Obj)} {Z : St} {H : Hp} {s : Shared} {E : Value -> Shared -> Prop}
def Inv.wish (I : Inv X pins Z H s) (E : Value -> Shared -> Prop) : Inv (X.wish E) pins Z H s := ⟨I.ok.wish E, I.os, I.bare, I.base, I.loc, I.cell, I.free, I.freeC, I.pin, I.hok, I.len⟩
def Inv.unwish (I : Inv (X.wish E) pins Z H s) : Inv X pins Z H s := ⟨I.ok.unwish, I.os, I.bare, I.base, I.loc, I.cell, I.free, I.freeC, I.pin, I.hok, I.len⟩
def SP.unwish {D : Ends} {f : Flow} {s' : Shared} (h : SP (X.wish E) pins D f s') : SP X pins D f s' := by
 cases f with
 | next => obtain ⟨Z', H', I, q⟩ := h; exact ⟨Z', H', I.unwish, q⟩
 | brk => obtain ⟨Z', H', I, q⟩ := h; exact ⟨Z', H', I.unwish, q⟩
 | cont => obtain ⟨Z', H', I, q⟩ := h; exact ⟨Z', H', I.unwish, q⟩
 | ret u => obtain ⟨v, Z', H', I, r, q⟩ := h; exact ⟨v, Z', H', I.unwish, r, q⟩
def PE.nox {e : Expr} {t : TE} (h : PE X.nox e t) : PE X e t := λpins s Z H Q I hw =>
 Yp (h pins s Z H Q (I.wish _) hw) (λ_ _ ⟨v, H', I', r, q⟩ => ⟨v, H', I'.unwish, r, q⟩) λ_ _ z => False.elim z
def PT.nox {e : Expr} {t : TT} (h : PT X.nox e t) : PT X e t := λpins s Z H Q I hw =>
 Yp (h pins s Z H Q (I.wish _) hw) (λ_ _ ⟨H', I', q⟩ => ⟨H', I'.unwish, q⟩) λ_ _ z => False.elim z
def PSs.nox {st : List Stmt} {t : TS} (h : PSs X.nox st t) : PSs X st t := λpins s Z H D I hw =>
 Yp (h pins s Z H D (I.wish _) hw) (λ_ _ q => q.unwish) λ_ _ z => False.elim z
end
section
variable {X : Cx} {st : Stmt} {rest : List Stmt} {t u : TS} {e : Expr} {te : TE} {pos : Pos}
def Zlc : TS := λD Z H => D.nx Z H
def Zqe (t u : TS) : TS := λD Z H => t { D with nx := u D } Z H
def Zni : PSs X [] Zlc := λ_ _ Z H _ I h => VT ⟨Z, H, I, h⟩
def ZlF (h1 : PS X st t) (h2 : PSs X rest u) : PSs X (st :: rest) (Zqe t u) := by
 intro pins s Z H D I h
 refine wpAny_execs_cons (ZR (h1 pins s Z H { D with nx := u D } I h) λf s1 q => ?_)
 cases f with
 | next =>
  obtain ⟨Z', H', I', q⟩ := q
  exact h2 pins s1 Z' H' D I' q
 | ret v => exact q
 | brk => exact q
 | cont => exact q
def ZoB (h1 : PS X st t) : PSs X [st] t := by
 intro pins s Z H D I h
 refine wpAny_execs_cons (ZR (h1 pins s Z H D I h) λf s1 q => ?_)
 cases f with
 | next => exact VT q
 | ret v => exact q
 | brk => exact q
 | cont => exact q
theorem Inv.quiet {pins : List (Addr × Obj)} {Z : St} {H : Hp} {s : Shared} (I : Inv X pins Z H s) : interactive X.env = false := by simp [interactive, I.ok.kind]
def Zmg (te : TE) : TS := λD Z H => te Z H λ_ H1 => D.nx Z H1
def Zoz (he : PE X e te) (hs : swapsWith e none pos.line X.env = pure false := by rfl) : PS X (.Expr e pos) (Zmg te) := by
 intro pins s Z H D I h
 exact wpAny_Expr_any (ZR (he pins s Z H _ I h) λv s1 ⟨x, H1, I1, r1, q1⟩ => ⟨Z, H1, I1, q1⟩) I.quiet hs
def ZqC (te : TE) : TS := λD Z H => te Z H D.rt
def Zpd (he : PE X e te) : PS X (.Return (some e) pos) (ZqC te) := by
 intro pins s Z H D I h
 exact wpAny_Return_some (ZR (he pins s Z H _ I h) λv s1 ⟨x, H1, I1, r1, q1⟩ => ⟨x, Z, H1, I1, r1, q1⟩)
def Zo7 : TS := λD _ H => D.rt .non H
def ZpE (c : TT) (t u : TS) : TS := λD Z H => c Z H λb H1 => if b = true then t D Z H1 else u D Z H1
def Zq2 {c : Expr} {a b : List Stmt} {tc : TT} (hc : PT X c tc) (ha : PSs X a t) (hb : PSs X b u) : PS X (.If c a b pos) (ZpE tc t u) := by
 intro pins s Z H D I h
 refine wpAny_If (ZR (hc pins s Z H _ I h) λd s1 ⟨H1, I1, q1⟩ => ?_)
 cases d with
 | true => exact ha pins s1 Z H1 D I1 q1
 | false => exact hb pins s1 Z H1 D I1 q1
def ZmI : TS := λ_ _ _ => False
def ZlW : PS X st ZmI := λ_ _ _ _ _ _ h => h.elim
end
abbrev TG := V -> St -> Hp -> (St -> Hp -> Prop) -> Prop
abbrev TGs := List V -> St -> Hp -> (St -> Hp -> Prop) -> Prop
def PG (X : Cx) (target : Expr) (t : TG) : Prop :=
 ∀ (pins : List (Addr × Obj)) (s : Shared) (Z : St) (H : Hp) (v : V) (u : Value) (Q : St -> Hp -> Prop), Inv X pins Z H s -> RelV v u -> t v Z H Q ->
  wpAny (model X.prog X.w) X.A (assign target X.env u) (λ_ s' => ∃ Z' H', Inv X pins Z' H' s' /\ Q Z' H') X.xe s
def PGs (X : Cx) (ts : List Expr) (t : TGs) : Prop :=
 ∀ (pins : List (Addr × Obj)) (s : Shared) (Z : St) (H : Hp) (vs : List V) (us : List Value) (Q : St -> Hp -> Prop), Inv X pins Z H s -> Vals vs us -> t vs Z H Q ->
  wpAny (model X.prog X.w) X.A (assignInOrder ((assignEach ts X.env).map (·.2)) us) (λ_ s' => ∃ Z' H', Inv X pins Z' H' s' /\ Q Z' H') X.xe s
abbrev ZqV := V -> V -> V -> Hp -> (Hp -> Prop) -> Prop
def ZrY (X : Cx) (t : ZqV) : Prop :=
 ∀ (pins : List (Addr × Obj)) (s : Shared) (Z : St) (H : Hp) (o i v : V) (ov iv u : Value) (Q : Hp -> Prop), Inv X pins Z H s -> RelV o ov -> RelV i iv -> RelV v u -> t o i v H Q ->
  wpAny (model X.prog X.w) X.A (setItem ov iv u) (λ_ s' => ∃ H', Inv X pins Z H' s' /\ Q H') X.xe s
section
variable {X : Cx} {pos : Pos}
def Jy (i : Nat) : TG := λv Z H Q => Q (Z.set i (some v)) H
def Zn9 {i : Nat} {x : Str} (hN : X.N.Nodup) (hi : X.N[i]? = some x) (hx : Loc X.env.scope x) (hf : X.fn x = true \/ X.env.scope.names.lookup x = some .local := by first | exact .inl rfl | exact .inr rfl | assumption) : PG X (.Name x pos) (Jy i) := by
 intro pins s Z H v u Q I r h
 exact wpAny_assign_Name (ZbW I hN hi hx r (λs' I' => ⟨_, H, I', h⟩) hf)
def ZqO : TGs := λvs Z H Q => vs = [] /\ Q Z H
def ZkF (t : TG) (u : TGs) : TGs := λvs Z H Q => ∃ v r, vs = v :: r /\ t v Z H λZ' H' => u r Z' H' Q
def Znc : PGs X [] ZqO := by
 intro pins s Z H vs us Q I r h
 obtain ⟨e, h⟩ := h
 subst e
 cases r
 exact assignInOrder_nil ⟨Z, H, I, h⟩
def Zls {e : Expr} {es : List Expr} {t : TG} {u : TGs} (h1 : PG X e t) (h2 : PGs X es u)
  (hs : (assignEach (e :: es) X.env).map (·.2) = assign e X.env :: (assignEach es X.env).map (·.2) := by rfl) : PGs X (e :: es) (ZkF t u) := by
 intro pins s Z H vs us Q I r h
 obtain ⟨v, vr, e1, h⟩ := h
 subst e1
 cases r with
 | cons r rr =>
  rw [hs]
  refine assignInOrder_cons (ZR (h1 pins s Z H _ _ _ I r h) λ_ s1 ⟨Z1, H1, I1, q1⟩ => ?_)
  exact h2 pins s1 Z1 H1 _ _ Q I1 rr q1
def Zr6 (K : PySem.W.Frag) (n : Nat) (t : TGs) : TG := λv Z H Q => ∃ a xs, v = .ref a /\ SqT K H a xs /\ xs.length = n /\ t xs Z H Q
def Zo8 {es : List Expr} {k : Nat} {t : TGs} {n : Nat} (hc : X.calm = true) (h : PGs X es t)
  (hn : (assignEach es X.env).length = n := by rfl) (hst : (assignEach es X.env).findIdx? (·.1) = none := by rfl) : PG X (.Tuple es k pos) (Zr6 X.K n t) := by
 intro pins s Z H v u Q I r hw
 obtain ⟨a, xs, e1, hq, hl, hw⟩ := hw
 subst e1
 cases r
 obtain ⟨its, rv, ht, hz⟩ := I.tuple hq
 refine assign_Tuple_tuple (I.ok.hd hc) ht (by simp [hn, <- hl, rv.length]) hst λh' hx => ?_
 have I1 : Inv X pins Z H { s with heap := h' } := I.kept (t' := s.toks) λb o e => hx b o (Yl (Ye e)) e
 exact h pins _ Z H xs _ Q I1 (by simpa using rv) hw
def ZqT (to ti : TE) (t : ZqV) : TG := λv Z H Q => to Z H λo H1 => ti Z H1 λi H2 => t o i v H2 λH3 => Q Z H3
def ZpJ {o i : Expr} {to ti : TE} {t : ZqV} (ho : PE X o to) (hi : PE X i ti) (hs : ZrY X t)
  (ha : ∀ v, assign (.Subscript o i pos) X.env v = (do
   let ov <- holding [v] (eval o X.env)
   let iv <- holding [v, ov] (eval i X.env)
   standAt pos
   holding [v, ov, iv] (setItem ov iv v)
   release [v, ov, iv] []) := by intro _; rfl) : PG X (.Subscript o i pos) (ZqT to ti t) := by
 intro pins s Z H v u Q I r h
 rw [ha]
 refine Ya (YD (ZR (ho pins s Z H _ I h) λov s1 ⟨x, H1, I1, r1, q1⟩ => ?_))
 refine Ya (YD (ZR (hi pins s1 Z H1 _ I1 q1) λiv s2 ⟨y, H2, I2, r2, q2⟩ => ?_))
 refine Ya (Yah (Ya (YD (ZR (hs pins s2 Z H2 x y v ov iv u _ I2 r1 r2 r q2) λ_ s3 ⟨H3, I3, q3⟩ => ?_))))
 exact wpAny_release ⟨Z, H3, I3, q3⟩
def Zku (te : TE) (g : TG) : TS := λD Z H => te Z H λx H1 => g x Z H1 D.nx
def Zqd {tg e : Expr} {te : TE} {g : TG} (he : PE X e te) (hg : PG X tg g) (hs : swapsWithSole [tg] e pos.line X.env = pure false := by rfl) (hw : swappedStores [tg] e X.env = pure none := by rfl)
  (h1 : (assignEach [tg] X.env).map (·.2) = [assign tg X.env] := by rfl) : PS X (.Assign [tg] e pos) (Zku te g) := by
 intro pins s Z H D I h
 refine wpAny_Assign_stores (ZR (he pins s Z H _ I h) λv s1 ⟨x, H1, I1, r1, q1⟩ => ?_) hs hw
 rw [h1]
 exact ZR (hg pins s1 Z H1 x v _ I1 r1 q1) λ_ s2 q => q
def Zp3 {i : Nat} {x : Str} {e : Expr} {te : TE} {pos' : Pos} (hN : X.N.Nodup) (hi : X.N[i]? = some x) (hx : Loc X.env.scope x) (he : PE X e te) (hs : swapsWith e (some (.Name x pos')) pos.line X.env = pure false := by rfl) (hf : X.fn x = true \/ X.env.scope.names.lookup x = some .local := by first | exact .inl rfl | exact .inr rfl | assumption) :
  PS X (.Assign [.Name x pos'] e pos) (Zku te (Jy i)) := by
 intro pins s Z H D I h
 refine wpAny_Assign_Name (ZR (he pins s Z H _ I h) λv s1 ⟨y, H1, I1, r1, q1⟩ => ?_) hs
 exact ZbW I1 hN hi hx r1 (λs2 I2 => ⟨_, H1, I2, q1⟩) hf
def ZqR (i j : Nat) (ta : TA) : TS := λD Z H => ta Z H λvs H1 => ∃ v w, vs = [v, w] /\ D.nx ((Z.set i (some v)).set j (some w)) H1
def ZpS {i j : Nat} {x y : Str} {a b : Expr} {ta : TA} {px py pt : Pos} {kt k2 pt2} (hc : X.calm = true) (hN : X.N.Nodup) (hi : X.N[i]? = some x) (hj : X.N[j]? = some y) (hij : i ≠ j)
  (hx : X.env.scope.names.lookup x = some .local) (hy : X.env.scope.names.lookup y = some .local) (ha : PA X [a, b] ta)
  (hw : swappedStores [.Tuple [.Name x px, .Name y py] kt pt] (.Tuple [a, b] k2 pt2) X.env = pure (some [x, y]))
  (hs : swapsWithSole [.Tuple [.Name x px, .Name y py] kt pt] (.Tuple [a, b] k2 pt2) pos.line X.env = pure false := by rfl) :
  PS X (.Assign [.Tuple [.Name x px, .Name y py] kt pt] (.Tuple [a, b] k2 pt2) pos) (ZqR i j ta) := by
 intro pins s Z H D I h
 rw [exec_Assign_arm]
 refine Ya (Yah ?_)
 rw [hs]
 refine Ya (Yb ?_)
 rw [if_neg (by decide)]
 refine Ya (Tuple_ (ZR (ha _ pins s Z H _ I h) λus s1 ⟨vs, H1, I1, r1, q1⟩ => ?_))
 obtain ⟨v, w, e1, q1⟩ := q1
 subst e1
 obtain ⟨u1, u2, rfl, rv, rw'⟩ : ∃ u1 u2, us = [u1, u2] /\ RelV v u1 /\ RelV w u2 := by
  cases r1 with
  | cons p q =>
   cases q with
   | cons p' q' =>
    cases q'
    exact ⟨_, _, rfl, p, p'⟩
 refine Vh ?_ (by show 2 <= sizeLine; decide)
 have I2 : Inv X pins Z H1 { s1 with heap := s1.heap.push { cls := .type "tuple", data := .seq [u1, u2].toArray } } := I1.kept (t' := s1.toks) λb o e => Yf _ e
 rw [hw]
 refine Ya (Yb ?_)
 show wpAny (model X.prog X.w) X.A (do rule "assign.swapped-stores"; let items <- unpackItems (.ref s1.heap.objs.size) 2 none; assignInOrder [λv => bindName X.env y v, λv => bindName X.env x v] items.reverse; pure Flow.next) _ _ _
 refine Ya (Vr (Ya (unpackItems_tuple (items := #[u1, u2]) (I.ok.hd hc) (IsTup.new s1.heap _) λh' hx' => ?_)))
 have I3 := I2.kept (h' := h') (t' := s1.toks) λb o e => hx' b o (Yl (Ye e)) e
 show wpAny _ _ (assignInOrder [λv => bindName X.env y v, λv => bindName X.env x v] [u2, u1] >>= λ_ => pure Flow.next) _ _ _
 refine Ya (assignInOrder_cons (wpAny_bindName (ZbW I3 hN hj (.inl hy) rw' (λs2 I4 => ?_) (.inr hy))))
 refine assignInOrder_cons (wpAny_bindName (ZbW I4 hN hi (.inl hx) rv (λs3 I5 => assignInOrder_nil (Yb ?_)) (.inr hx)))
 rw [List.set_comm _ _ (Ne.symm hij)] at I5
 exact ⟨_, H1, I5, q1⟩
def Ziq (c : TT) (tb : TS) : TS := λD Z H => ∃ W : Nat -> St -> Hp -> Prop, (∃ m, W m Z H) /\ ∀ m Z H, W m Z H ->
 c Z H λb H1 => if b = true then ∃ N : St -> Hp -> Prop, (∀ Z' H', N Z' H' -> ∃ m', m' < m /\ W m' Z' H') /\ tb { D with nx := N, ct := N, bk := D.nx } Z H1 else D.nx Z H1
def ZkT {c : Expr} {body : List Stmt} {tc : TT} {tb : TS} (hp : PassesOwn (model X.prog X.w) X.A X.env X.xe) (hc : PT X c tc) (hb : PSs X body tb) : PS X (.While c body [] pos) (Ziq tc tb) := by
 intro pins s Z H D I h
 obtain ⟨W, ⟨m0, w0⟩, turn⟩ := h
 refine wpAny_While (codeAny_whileLoop (λn s' => ∃ Z' H', Inv X pins Z' H' s' /\ W n Z' H') ?_ m0 ⟨Z, H, I, w0⟩)
 rintro n s1 ⟨Z1, H1, I1, w1⟩
 refine VA hp (ZR (hc pins s1 Z1 H1 _ I1 (turn n Z1 H1 w1)) λb s2 ⟨H2, I2, q2⟩ => ?_)
 cases b with
 | true =>
  obtain ⟨N, hN, q2⟩ := q2
  rw [if_pos rfl]
  refine VA hp (ZR (hb pins s2 Z1 H2 _ I2 q2) λf s3 q3 => ?_)
  cases f with
  | next =>
   obtain ⟨Z3, H3, I3, n3⟩ := q3
   obtain ⟨m', hm, w3⟩ := hN Z3 H3 n3
   exact ⟨m', hm, Z3, H3, I3, w3⟩
  | cont =>
   obtain ⟨Z3, H3, I3, n3⟩ := q3
   obtain ⟨m', hm, w3⟩ := hN Z3 H3 n3
   exact ⟨m', hm, Z3, H3, I3, w3⟩
  | brk => exact q3
  | ret v => exact q3
 | false =>
  rw [if_neg Yy]
  exact VT ⟨Z1, H2, I2, q2⟩
end
structure It where
 go : Nat -> Hp -> Prop
 yld : Nat -> Hp -> V -> Hp -> Prop
 stop : Nat -> Hp -> Prop
def Jv (X : Cx) (pins : List (Addr × Obj)) (H : Hp) (b : Addr) : Prop :=
 H b = none /\ b ≠ X.env.locals /\ b ∉ X.fs /\ (b ∈ X.ex \/ X.s₀.heap.objs.size <= b) /\ (∀ x c, X.env.cells.lookup x = some c -> c ≠ b) /\ ∀ p ∈ X.pn ++ pins, p.1 ≠ b
def Inv.fpOk {X : Cx} {pins : List (Addr × Obj)} {Z : St} {H H' : Hp} {s : Shared} {b : Addr} (I : Inv X pins Z H s) (hb : s.heap.objs.size <= b) (hn : H' b = none) : Jv X pins H' b := by
 refine ⟨hn, Vk (Yo I.lt hb), I.nofs hb, .inr (Yh I.sz hb), λx c e z => ?_, λp hp z => ?_⟩
 ·obtain ⟨v, q⟩ := I.cell x c e
  exact absurd (Yo q.lt (by rw [z]; exact hb)) (YF _)
 ·exact absurd (Yo (Ye (I.pin p hp).1) (by rw [z]; exact hb)) (YF _)
structure Turn (P : Program) (w : World) (K : PySem.W.Frag) (tg : Expr) (J : It) (fp : List Addr) (it : Addr) (tn : Nat -> Heap -> Prop) : Prop where
 mem : it ∈ fp
 obj : ∀ i h, tn i h -> ∀ b ∈ fp, ∃ o, h.get? b = some o /\ ∀ v, o.data ≠ .cell v
 keep : ∀ i h h', tn i h -> (∀ b ∈ fp, ∀ o, h.get? b = some o -> h'.get? b = some o) -> tn i h'
 item : ∀ (X : Cx), X.prog = P -> X.w = w -> X.K = K -> X.calm = true -> ∀ (i : Nat) (pins : List (Addr × Obj)) (s : Shared) (Z : St) (H : Hp) (E : Value -> Shared -> Prop), Inv X pins Z H s -> (∀ b ∈ fp, Jv X pins H b) -> tn i s.heap -> J.go i H ->
  wpAny (model P w) X.A (pyNext (.ref it)) (λr s1 => ∃ u, r = some u /\
   wpAny (model P w) X.A (letOwnedTupleGo tg (.ref it) u) (λ_ s2 => ∃ x H', Inv X pins Z H' s2 /\ RelV x u /\ J.yld i H x H' /\ tn (i + 1) s2.heap /\ ∀ b ∈ fp, H' b = none) E s1) E s
 done : ∀ (X : Cx), X.prog = P -> X.w = w -> X.K = K -> X.calm = true -> ∀ (i : Nat) (pins : List (Addr × Obj)) (s : Shared) (Z : St) (H : Hp) (E : Value -> Shared -> Prop), Inv X pins Z H s -> (∀ b ∈ fp, Jv X pins H b) -> tn i s.heap -> J.stop i H ->
  wpAny (model P w) X.A (pyNext (.ref it)) (λr s1 => r = none /\ Inv X pins Z H s1) E s
 self : ∀ (A : Around) (i : Nat) (s : Shared) (Q : Value -> Shared -> Prop) (E : Value -> Shared -> Prop), tn i s.heap -> Q (.ref it) s -> wpAny (model P w) A (pyIter (.ref it)) Q E s
abbrev TI := St -> Hp -> (It -> Hp -> Prop) -> Prop
def PIE (X : Cx) (pins : List (Addr × Obj)) (Z : St) (tg : Expr) (R : It -> Hp -> Prop) (itv : Value) (s2 : Shared) : Prop :=
 ∃ (it : Addr) (fp : List Addr) (tn : Nat -> Heap -> Prop) (J : It) (H' : Hp), itv = .ref it /\ Inv X pins Z H' s2 /\ Turn X.prog X.w X.K tg J fp it tn /\ tn 0 s2.heap /\ (∀ b ∈ fp, Jv X pins H' b) /\ R J H'
def PI (X : Cx) (tg iter : Expr) (wi : TI) : Prop :=
 ∀ (pins : List (Addr × Obj)) (s : Shared) (Z : St) (H : Hp) (R : It -> Hp -> Prop), Inv X pins Z H s -> wi Z H R ->
  wpAny (model X.prog X.w) X.A (eval iter X.env) (λv s1 => wpAny (model X.prog X.w) X.A (pyIter v) (PIE X pins Z tg R) X.xe s1) X.xe s
def ZkV {M : Model} {A : Around} {E : Value -> Shared -> Prop} {s : Shared} {tg : Expr} {it : Addr} {u : Value} {o : Obj} {n : String} {vs : Array Value} {Q : Unit -> Shared -> Prop} (ho : s.heap.get? it = some o) (hc : o.cls = .type n) (hd : o.data = .fields vs)
    (hn : ["enumerate", "zip", "dict_itemiterator", "dict_reverseitemiterator", "odict_iterator", "itertools.zip_longest", "itertools.pairwise"].contains n = false) (hQ : Q () s) : wpAny M A (letOwnedTupleGo tg (.ref it) u) Q E s := by
  unfold letOwnedTupleGo
  cases tg <;> first
    | exact Yb hQ
    | (cases u <;> first
        | exact Yb hQ
        | (refine Ya (VC ho ?_)
           rw [hc, hd]
           show wpAny M A (if (["enumerate", "zip", "dict_itemiterator", "dict_reverseitemiterator", "odict_iterator", "itertools.zip_longest", "itertools.pairwise"].contains n && vs[0]? == some (rawInt _)) = true then _ else _) Q E s
           rw [if_neg (by intro h; rw [hn, Bool.false_and] at h; cases h)]
           exact Yb hQ))
def Itl (K : PySem.W.Frag) (a : Addr) : It :=
 ⟨λi H => ∃ xs x, SqL K H a xs /\ xs[i]? = some x, λi H x H' => H' = H /\ ∀ xs, SqL K H a xs -> xs[i]? = some x, λi H => ∃ xs, SqL K H a xs /\ xs.length <= i⟩
def Itt (K : PySem.W.Frag) (a : Addr) : It :=
 ⟨λi H => ∃ xs x, SqT K H a xs /\ xs[i]? = some x, λi H x H' => H' = H /\ ∀ xs, SqT K H a xs -> xs[i]? = some x, λi H => ∃ xs, SqT K H a xs /\ xs.length <= i⟩
def Itr (lo : Int) (n : Nat) : It := ⟨λi _ => i < n, λi H x H' => H' = H /\ x = .int (lo + i), λi _ => n <= i⟩
def ZjU {P : Program} {w : World} {K : PySem.W.Frag} {tg : Expr} (a it : Addr) : Turn P w K tg (Itl K a) [it] it (λi h => h.IsListIter it a i) where
 mem := by simp
 obj := λi h st b hb => by
  have e : b = it := by simpa using hb
  subst e
  obtain ⟨o, e, c, d⟩ := st
  exact ⟨o, e, λv z => by rw [d] at z; cases z⟩
 keep := λi h h' st k => st.at λo e => k it (by simp) o e
 item := by
  intro X hP hw hK hc i pins s Z H E I hf st hg
  subst hP hw hK
  obtain ⟨xs, x, hq, hx⟩ := hg
  obtain ⟨its, rv, p, hz⟩ := I.list hq
  obtain ⟨u, hu, ru⟩ := rv.get hx
  obtain ⟨f0, f1, f2, f3, f4, f5⟩ := hf it (by simp)
  refine wpAny_pyNext_list_item st p.isList (x := u) (by simpa using hu) λh' st' sb => ?_
  have I1 : Inv X pins Z H { s with heap := h' } := I.turned (t' := s.toks) (λb o hb e => (sb.2 b hb).trans e) f0 f1 f3 f4 f5
  obtain ⟨o, e, c, d⟩ := id st'
  exact ⟨u, rfl, ZkV (s := { s with heap := h' }) e c d (by decide) ⟨x, H, I1, ru, ⟨rfl, λys hy => by rw [I.list_inj hy hq]; exact hx⟩, st', λb hb => (hf b hb).1⟩⟩
 done := by
  intro X hP hw hK hc i pins s Z H E I hf st hg
  subst hP hw hK
  obtain ⟨xs, hq, hx⟩ := hg
  obtain ⟨its, rv, p, hz⟩ := I.list hq
  obtain ⟨f0, f1, f2, f3, f4, f5⟩ := hf it (by simp)
  have hl := rv.length
  exact wpAny_pyNext_list_end (I.ok.hd hc) st p.isList (by simp; omega) λh' eb => ⟨rfl, I.turned (t' := s.toks) (λb o hb e => eb b o hb e) f0 f1 f3 f4 f5⟩
 self := λ_ _ _ _ _ st h => wpAny_pyIter_listiter st h
def Zhy {P : Program} {w : World} {K : PySem.W.Frag} {tg : Expr} (a it : Addr) : Turn P w K tg (Itt K a) [it] it (λi h => h.IsTupleIter it a i) where
 mem := by simp
 obj := λi h st b hb => by
  have e : b = it := by simpa using hb
  subst e
  obtain ⟨o, e, c, d⟩ := st
  exact ⟨o, e, λv z => by rw [d] at z; cases z⟩
 keep := λi h h' st k => st.at λo e => k it (by simp) o e
 item := by
  intro X hP hw hK hc i pins s Z H E I hf st hg
  subst hP hw hK
  obtain ⟨xs, x, hq, hx⟩ := hg
  obtain ⟨its, rv, p, hz⟩ := I.tuple hq
  obtain ⟨u, hu, ru⟩ := rv.get hx
  obtain ⟨f0, f1, f2, f3, f4, f5⟩ := hf it (by simp)
  refine wpAny_pyNext_tuple_item st (show s.heap.IsTuple a its.toArray from p) (x := u) (by simpa using hu) λh' st' sb => ?_
  have I1 : Inv X pins Z H { s with heap := h' } := I.turned (t' := s.toks) (λb o hb e => (sb.2 b hb).trans e) f0 f1 f3 f4 f5
  obtain ⟨o, e, c, d⟩ := id st'
  exact ⟨u, rfl, ZkV (s := { s with heap := h' }) e c d (by decide) ⟨x, H, I1, ru, ⟨rfl, λys hy => by rw [I.tuple_inj hy hq]; exact hx⟩, st', λb hb => (hf b hb).1⟩⟩
 done := by
  intro X hP hw hK hc i pins s Z H E I hf st hg
  subst hP hw hK
  obtain ⟨xs, hq, hx⟩ := hg
  obtain ⟨its, rv, p, hz⟩ := I.tuple hq
  obtain ⟨f0, f1, f2, f3, f4, f5⟩ := hf it (by simp)
  have hl := rv.length
  exact wpAny_pyNext_tuple_end (I.ok.hd hc) st (show s.heap.IsTuple a its.toArray from p) (by simp; omega) λh' eb => ⟨rfl, I.turned (t' := s.toks) (λb o hb e => eb b o hb e) f0 f1 f3 f4 f5⟩
 self := λ_ _ _ _ _ st h => wpAny_pyIter_tupleiter st h
def ZhR {P : Program} {w : World} {K : PySem.W.Frag} {tg : Expr} (it : Addr) (lo : Int) (n : Nat) : Turn P w K tg (Itr lo n) [it] it (λi h => IsRangeIter h it (lo + (i : Nat) * 1) ((n : Int) - (i : Nat)) 1) where
 mem := by simp
 obj := λi h st b hb => by
  have e : b = it := by simpa using hb
  subst e
  exact ⟨_, st, λv z => by
   have z' : Data.fields _ = Data.cell v := z
   cases z'⟩
 keep := λi h h' st k => k it (by simp) _ st
 item := by
  intro X hP hw hK hc i pins s Z H E I hf st hg
  subst hP hw hK
  obtain ⟨f0, f1, f2, f3, f4, f5⟩ := hf it (by simp)
  have W := Walks.range (prog := X.prog) (w := X.w) (I.ok.hd hc) it lo 1 n
  refine W.item i s _ _ hg st λv h' tk hv st' kk => ?_
  obtain ⟨t, rfl⟩ := hv
  have I1 : Inv X pins Z H { s with heap := h', toks := tk } := I.turned (λb o hb e => kk b o (by simpa using hb) e) f0 f1 f3 f4 f5
  refine ⟨_, rfl, ZkV (s := { s with heap := h', toks := tk }) (n := "range_iterator") st' rfl rfl (by decide) ⟨.int (lo + i), H, I1, ⟨t, ?_⟩, ⟨rfl, rfl⟩, st', λb hb => (hf b hb).1⟩⟩
  rw [Int.mul_one]
 done := by
  intro X hP hw hK hc i pins s Z H E I hf st hg
  subst hP hw hK
  obtain ⟨f0, f1, f2, f3, f4, f5⟩ := hf it (by simp)
  exact wpAny_pyNext_range_end (I.ok.hd hc) st (by have : n <= i := hg; omega) λh' eb => ⟨rfl, I.turned (t' := s.toks) (λb o hb e => eb b o hb e) f0 f1 f3 f4 f5⟩
 self := λ_ _ _ _ _ st h => wpAny_pyIter_rangeiter st h
section
variable {X : Cx} {tg : Expr}
def Zef (K : PySem.W.Frag) (tl : TE) : TI := λZ H R => tl Z H λx H1 => ∃ a, x = .ref a /\ (∃ xs, SqL K H1 a xs) /\ R (Itl K a) H1
def Zrb (K : PySem.W.Frag) (tl : TE) : TI := λZ H R => tl Z H λx H1 => ∃ a, x = .ref a /\ (∃ xs, SqT K H1 a xs) /\ R (Itt K a) H1
def Znq {l : Expr} {tl : TE} (hl : PE X l tl) : PI X tg l (Zef X.K tl) := by
 intro pins s Z H R I h
 refine ZR (hl pins s Z H _ I h) λv s1 ⟨x, H1, I1, r1, q1⟩ => ?_
 obtain ⟨a, e, ⟨xs, hq⟩, q⟩ := q1
 subst e
 cases r1
 obtain ⟨its, rv, p, hz⟩ := I1.list hq
 refine wpAny_pyIter_list p.isList ?_
 refine ⟨s1.heap.objs.size, [s1.heap.objs.size], _, _, H1, rfl, I1.kept (t' := s1.toks) λb o e => Yf _ e, ZjU a _, ⟨_, Yn _ rfl, rfl, rfl⟩, λb hb => ?_, q⟩
 have e : b = s1.heap.objs.size := by simpa using hb
 subst e
 exact I1.fpOk (Yd _) (I1.hok.fresh (Yd _))
def Zpg {l : Expr} {tl : TE} (hl : PE X l tl) : PI X tg l (Zrb X.K tl) := by
 intro pins s Z H R I h
 refine ZR (hl pins s Z H _ I h) λv s1 ⟨x, H1, I1, r1, q1⟩ => ?_
 obtain ⟨a, e, ⟨xs, hq⟩, q⟩ := q1
 subst e
 cases r1
 obtain ⟨its, rv, p, hz⟩ := I1.tuple hq
 refine wpAny_pyIter_tuple (show s1.heap.IsTuple a its.toArray from p) ?_
 refine ⟨s1.heap.objs.size, [s1.heap.objs.size], _, _, H1, rfl, I1.kept (t' := s1.toks) λb o e => Yf _ e, Zhy a _, ⟨_, Yn _ rfl, rfl, rfl⟩, λb hb => ?_, q⟩
 have e : b = s1.heap.objs.size := by simpa using hb
 subst e
 exact I1.fpOk (Yd _) (I1.hok.fresh (Yd _))
theorem ZgN {pins : List (Addr × Obj)} {Z : St} {H : Hp} {s : Shared} {R : It -> Hp -> Prop} {E : Value -> Shared -> Prop} {lo hi : Int} {t u v : Tok} {tk : Nat} (I : Inv X pins Z H s) (h1 : -(2 ^ 62) <= lo) (h2 : lo < 2 ^ 62) (h3 : -(2 ^ 62) <= hi) (h4 : hi < 2 ^ 62)
  (q : R (Itr lo (hi - lo).toNat) H) : wpAny (model X.prog X.w) X.A (pyIter (.ref s.heap.objs.size)) (PIE X pins Z tg R) E { s with heap := s.heap.push { cls := .type "range", data := .fields #[.int lo t, .int hi u, .int 1 v] }, toks := tk } := by
 refine wpAny_pyIter_range (IsRange.new ..) (small_one h1 h2 h3 h4) ?_
 have I1 : Inv X pins Z H { s with heap := s.heap.push { cls := .type "range", data := .fields #[.int lo t, .int hi u, .int 1 v] }, toks := tk } := I.kept λb o e => Yf _ e
 refine ⟨(s.heap.push { cls := .type "range", data := .fields #[.int lo t, .int hi u, .int 1 v] }).objs.size, [(s.heap.push { cls := .type "range", data := .fields #[.int lo t, .int hi u, .int 1 v] }).objs.size], _, _, H, rfl,
  I1.kept (t' := tk) λb o e => Yf _ e, ZhR _ lo (hi - lo).toNat, ?_, λb hb => ?_, q⟩
 ·have e1 : lo + ((0 : Nat) : Int) * 1 = lo := by simp
  have e2 : (((hi - lo).toNat : Nat) : Int) - ((0 : Nat) : Int) = Builtin.Range.rangeSize lo hi 1 := by rw [rangeSize_one]; split <;> omega
  show IsRangeIter _ _ (lo + ((0 : Nat) : Int) * 1) ((((hi - lo).toNat : Nat) : Int) - ((0 : Nat) : Int)) 1
  rw [e1, e2]
  exact Yn _ rfl
 ·have e : b = (s.heap.push { cls := .type "range", data := .fields #[.int lo t, .int hi u, .int 1 v] }).objs.size := by simpa using hb
  subst e
  exact I1.fpOk (Yd _) (I1.hok.fresh (Yd _))
def Zh0 (ta : TA) : TI := λZ H R => ta Z H λvs H1 => ∃ j : Int, vs = [.int j] /\ -(2 ^ 62) <= j /\ j < 2 ^ 62 /\ R (Itr 0 j.toNat) H1
def ZnW (ta : TA) : TI := λZ H R => ta Z H λvs H1 => ∃ i j : Int, vs = [.int i, .int j] /\ (-(2 ^ 62) <= i /\ i < 2 ^ 62 /\ -(2 ^ 62) <= j /\ j < 2 ^ 62) /\ R (Itr i (j - i).toNat) H1
def Zj8 {a : Expr} {ta : TA} {p pos : Pos} (hg : Gl X "range") (hm : X.mg "range" = none) (ha : PA X [a] ta) (hs : starEach [a] X.env = [(false, eval a X.env)] := by rfl) : PI X tg (.Call (.Name "range" p) [a] [] pos) (Zh0 ta) := by
 intro pins s Z H R I h
 refine Call_ (Jp I hg hm boot_range (Y9 (ZR (ha pos pins s Z H _ I h) λus s1 ⟨vs, H1, I1, r1, q1⟩ => ?_) hs rfl))
 obtain ⟨j, e, q1, q2, q⟩ := q1
 subst e
 cases r1 with
 | cons r rr =>
  cases rr
  obtain ⟨t, rfl⟩ := r
  exact call_range_1 (ZgN I1 (by omega) (by omega) q1 q2 (by simpa using q))
def Zie {a b : Expr} {ta : TA} {p pos : Pos} (hg : Gl X "range") (hm : X.mg "range" = none) (ha : PA X [a, b] ta) (hs : starEach [a, b] X.env = [(false, eval a X.env), (false, eval b X.env)] := by rfl) (hs2 : starEach [b] X.env = [(false, eval b X.env)] := by rfl) :
  PI X tg (.Call (.Name "range" p) [a, b] [] pos) (ZnW ta) := by
 intro pins s Z H R I h
 refine Call_ (Jp I hg hm boot_range (Y9 (ZR (ha pos pins s Z H _ I h) λus s1 ⟨vs, H1, I1, r1, q1⟩ => ?_) (by rw [hs, hs2]) (by rw [hs2]; rfl)))
 obtain ⟨i, j, e, ⟨q1, q2, q3, q4⟩, q⟩ := q1
 subst e
 cases r1 with
 | cons r rr =>
  cases rr with
  | cons r' rr =>
   cases rr
   obtain ⟨t, rfl⟩ := r
   obtain ⟨t', rfl⟩ := r'
   exact call_range_2 (ZgN I1 q1 q2 q3 q4 q)
def Zks (wi : TI) (g : TG) (tb : TS) : TS := λD Z H => wi Z H λJ H1 => ∃ W : Nat -> Nat -> St -> Hp -> Prop, (∃ m, W 0 m Z H1) /\ ∀ i m Z H, W i m Z H ->
 (J.stop i H /\ D.nx Z H) \/ (J.go i H /\ ∃ N : St -> Hp -> Prop, (∀ Z' H', N Z' H' -> ∃ m', m' < m /\ W (i + 1) m' Z' H') /\ ∀ x H', J.yld i H x H' -> g x Z H' λZ2 H2 => tb { D with nx := N, ct := N, bk := D.nx } Z2 H2)
def Zgx (fp : List Addr) (h : Heap) : List (Addr × Obj) := fp.filterMap λb => (h.get? b).map λo => (b, o)
def ZaF {fp : List Addr} {h : Heap} {b : Addr} {o : Obj} (hb : b ∈ fp) (e : h.get? b = some o) : (b, o) ∈ Zgx fp h := List.mem_filterMap.mpr ⟨b, hb, by rw [e]; rfl⟩
def ZiB {fp : List Addr} {h : Heap} {p : Addr × Obj} (hp : p ∈ Zgx fp h) : p.1 ∈ fp /\ h.get? p.1 = some p.2 := by
 obtain ⟨b, hb, e⟩ := List.mem_filterMap.mp hp
 cases q : h.get? b with
 | none => rw [q] at e; cases e
 | some o =>
  rw [q] at e
  have e' : (b, o) = p := YR e
  subst e'
  exact ⟨hb, q⟩
def Inv.pinned {pins : List (Addr × Obj)} {Z : St} {H : Hp} {s : Shared} {fp : List Addr} (I : Inv X pins Z H s) (hf : ∀ b ∈ fp, Jv X pins H b) (ho : ∀ b ∈ fp, ∃ o, s.heap.get? b = some o /\ ∀ v, o.data ≠ .cell v) : Inv X (pins ++ Zgx fp s.heap) Z H s :=
 I.pins_of λp hp => (Yu.mp hp).elim (λz => I.pin p (Yx _ z)) λz => by
  obtain ⟨hb, e⟩ := ZiB z
  obtain ⟨f0, f1, f2, _⟩ := hf p.1 hb
  obtain ⟨o, e', d⟩ := ho p.1 hb
  rw [e] at e'; cases e'
  exact ⟨e, f0, f1, f2, d⟩
def Inv.unpinned {pins pl : List (Addr × Obj)} {Z : St} {H : Hp} {s : Shared} (I : Inv X (pins ++ pl) Z H s) : Inv X pins Z H s := I.pins_of λp hp => I.pin p (Yx _ (Vt _ hp))
def Zqt {iter : Expr} {body : List Stmt} {wi : TI} {g : TG} {tb : TS} {pos : Pos} (hp : PassesOwn (model X.prog X.w) X.A X.env X.xe) (hc : X.calm = true) (hi : PI X tg iter wi) (hg : PG X tg g) (hb : PSs X body tb)
  (hs : ∀ x, foldedSetIterable iter X.env x = pure x := by intro _; rfl) : PS X (.For tg iter body [] pos) (Zks wi g tb) := by
 intro pins s Z H D I h
 refine wpAny_For (ZR (hi pins s Z H _ I h) λv s1 h1 => ZR h1 λitv s2 h2 => ?_) hs
 obtain ⟨it, fp, tn, J, H2, e, I2, T, st2, f2, W, ⟨m0, w0⟩, turn⟩ := h2
 subst e
 -- what stays true of the iterator's objects through the loop
 have stat : ∀ {H' : Hp}, (∀ b ∈ fp, H' b = none) -> ∀ b ∈ fp, Jv X pins H' b := λhn b hb => ⟨hn b hb, (f2 b hb).2⟩
 refine codeAny_forLoop_any (λn s' => ∃ i Z' H', Inv X pins Z' H' s' /\ tn i s'.heap /\ (∀ b ∈ fp, H' b = none) /\ W i n Z' H') ?_ m0 ⟨0, Z, H2, I2, st2, λb hb => (f2 b hb).1, w0⟩
 rintro n s3 ⟨i, Z3, H3, I3, st3, fr3, w3⟩
 rcases turn i n Z3 H3 w3 with ⟨stop, qn⟩ | ⟨go, N, hN, step⟩
 ·refine VA hp (ZR (T.done X rfl rfl rfl hc i pins s3 Z3 H3 X.xe I3 (stat fr3) st3 stop) λr s4 ⟨hr, I4⟩ => ?_)
  subst hr
  exact VT ⟨Z3, H3, I4, qn⟩
 ·refine VA hp (ZR (T.item X rfl rfl rfl hc i pins s3 Z3 H3 X.xe I3 (stat fr3) st3 go) λr s4 ⟨u, hr, h4⟩ => ?_)
  subst hr
  refine VA hp (ZR h4 λ_ s5 ⟨x, H5, I5, r5, y5, st5, fr5⟩ => ?_)
  have I5' := I5.pinned (stat fr5) (T.obj _ _ st5)
  refine VA hp (ZR (hg _ s5 Z3 H5 x u _ I5' r5 (step x H5 y5)) λ_ s6 ⟨Z6, H6, I6, q6⟩ => ?_)
  refine VA hp (ZR (hb _ s6 Z6 H6 _ I6 q6) λf s7 q7 => ?_)
  have again : ∀ {Z7 : St} {H7 : Hp}, Inv X (pins ++ Zgx fp s5.heap) Z7 H7 s7 -> N Z7 H7 -> ∃ m, m < n /\ ∃ i Z' H', Inv X pins Z' H' s7 /\ tn i s7.heap /\ (∀ b ∈ fp, H' b = none) /\ W i m Z' H' := λ{Z7 H7} I7 n7 => by
   obtain ⟨m', hm, w7⟩ := hN Z7 H7 n7
   refine ⟨m', hm, i + 1, Z7, H7, I7.unpinned, T.keep _ _ _ st5 λb hb o e => (I7.pin (b, o) (Yx _ (Yx _ (ZaF hb e)))).1, λb hb => ?_, w7⟩
   obtain ⟨o, e, d⟩ := T.obj _ _ st5 b hb
   exact (I7.pin (b, o) (Yx _ (Yx _ (ZaF hb e)))).2.1
  cases f with
  | next => obtain ⟨Z7, H7, I7, n7⟩ := q7; exact again I7 n7
  | cont => obtain ⟨Z7, H7, I7, n7⟩ := q7; exact again I7 n7
  | brk => obtain ⟨Z7, H7, I7, q7⟩ := q7; exact ⟨Z7, H7, I7.unpinned, q7⟩
  | ret v => obtain ⟨x7, Z7, H7, I7, r7, q7⟩ := q7; exact ⟨x7, Z7, H7, I7.unpinned, r7, q7⟩
end
def Zgu {K : PySem.W.Frag} {a : Addr} {xs : List V} {g : TG} {tb : TS} {D : Ends} {Z : St} {H : Hp} (Pv : Nat -> St -> Hp -> Prop) (h0 : Pv 0 Z H) (hl : ∀ i Z H, i <= xs.length -> Pv i Z H -> SqL K H a xs)
  (hs : ∀ i x Z H, xs[i]? = some x -> Pv i Z H -> g x Z H λZ2 H2 => tb { D with nx := Pv (i + 1), ct := Pv (i + 1), bk := D.nx } Z2 H2) (hd : ∀ Z H, Pv xs.length Z H -> D.nx Z H) :
  ∃ W : Nat -> Nat -> St -> Hp -> Prop, (∃ m, W 0 m Z H) /\ ∀ i m Z H, W i m Z H ->
   ((Itl K a).stop i H /\ D.nx Z H) \/ ((Itl K a).go i H /\ ∃ N : St -> Hp -> Prop, (∀ Z' H', N Z' H' -> ∃ m', m' < m /\ W (i + 1) m' Z' H') /\ ∀ x H', (Itl K a).yld i H x H' -> g x Z H' λZ2 H2 => tb { D with nx := N, ct := N, bk := D.nx } Z2 H2) := by
 refine ⟨λi m Z H => m = xs.length - i /\ i <= xs.length /\ Pv i Z H, ⟨xs.length, by simp, Nat.zero_le _, h0⟩, ?_⟩
 rintro i m Z H ⟨rfl, hi, p⟩
 have q := hl i Z H hi p
 by_cases hlt : i < xs.length
 ·refine .inr ⟨⟨xs, xs[i], q, by simp [hlt]⟩, Pv (i + 1), λZ' H' p' => ⟨xs.length - (i + 1), by omega, rfl, hlt, p'⟩, λx H' y => ?_⟩
  obtain ⟨e, y⟩ := y
  subst e
  exact hs i x Z _ (y xs q) p
 ·have e : i = xs.length := by omega
  subst e
  exact .inl ⟨⟨xs, q, Yd _⟩, hd Z H p⟩
abbrev R2 := V -> V -> Hp -> VK -> Prop
def OpR (X : Cx) (f : Value -> Value -> Sem Value) (r : R2) : Prop :=
 ∀ (pins : List (Addr × Obj)) (s : Shared) (Z : St) (H : Hp) (x y : V) (v u : Value) (Q : VK), Inv X pins Z H s -> RelV x v -> RelV y u -> r x y H Q ->
  wpAny (model X.prog X.w) X.A (f v u) (EP X pins Z Q) X.xe s
def UnR (X : Cx) (f : Value -> Sem Value) (r : V -> Hp -> VK -> Prop) : Prop :=
 ∀ (pins : List (Addr × Obj)) (s : Shared) (Z : St) (H : Hp) (x : V) (v : Value) (Q : VK), Inv X pins Z H s -> RelV x v -> r x H Q ->
  wpAny (model X.prog X.w) X.A (f v) (EP X pins Z Q) X.xe s
def CallR (X : Cx) (f : Value) (r : List V -> Hp -> VK -> Prop) : Prop :=
 ∀ (pins : List (Addr × Obj)) (s : Shared) (Z : St) (H : Hp) (xs : List V) (us : List Value) (Q : VK), Inv X pins Z H s -> Vals xs us -> r xs H Q ->
  wpAny (model X.prog X.w) X.A (call f us) (EP X pins Z Q) X.xe s
def tOp (r : R2) (ta tb : TE) : TE := λZ H Q => ta Z H λx H1 => tb Z H1 λy H2 => r x y H2 Q
def tUn (r : V -> Hp -> VK -> Prop) (ta : TE) : TE := λZ H Q => ta Z H λx H1 => r x H1 Q
def rI (C : Int -> Int -> Prop) (g : Int -> Int -> V) : R2 := λx y H Q => ∃ i j, x = .int i /\ y = .int j /\ C i j /\ Q (g i j) H
def rI0 (g : Int -> Int -> V) : R2 := λx y H Q => ∃ i j, x = .int i /\ y = .int j /\ Q (g i j) H
def rU (g : Int -> V) : V -> Hp -> VK -> Prop := λx H Q => ∃ i, x = .int i /\ Q (g i) H
section
variable {X : Cx} {a b c : Expr} {ta tb tc : TE} {pos : Pos}
def Zrj (ha : PE X a ta) (hb : PE X b tb) {pins : List (Addr × Obj)} {s : Shared} {Z : St} {H : Hp} {R : V -> V -> Hp -> Prop} (I : Inv X pins Z H s)
  (h : ta Z H λx H1 => tb Z H1 λy H2 => R x y H2) {Q : Value -> Shared -> Prop} {f : Value -> Value -> Sem Value}
  (hf : ∀ v u s2 x y H2, Inv X pins Z H2 s2 -> RelV x v -> RelV y u -> R x y H2 -> wpAny (model X.prog X.w) X.A (f v u) Q X.xe s2) :
  wpAny (model X.prog X.w) X.A (eval a X.env) (λv s₁ => wpAny (model X.prog X.w) X.A (eval b X.env) (λu s₂ => wpAny (model X.prog X.w) X.A (f v u) Q X.xe s₂) X.xe s₁) X.xe s := by
 refine ZR (ha pins s Z H _ I h) λv s1 ⟨x, H1, I1, r1, q1⟩ => ?_
 refine ZR (hb pins s1 Z H1 _ I1 q1) λu s2 ⟨y, H2, I2, r2, q2⟩ => ?_
 exact hf v u s2 x y H2 I2 r1 r2 q2
def JV {op : Operator} {r : R2} (ho : OpR X (binaryOp op) r) (ha : PE X a ta) (hb : PE X b tb) : PE X (.BinOp a op b pos) (tOp r ta tb) := by
 intro pins s Z H Q I h
 exact wpAny_BinOp (Zrj ha hb I h λv u s2 x y H2 I2 rx ry q => ho pins s2 Z H2 x y v u Q I2 rx ry q)
def Zru {op : UnaryOp} {r : V -> Hp -> VK -> Prop} (ho : UnR X (unaryOp op) r) (ha : PE X a ta) : PE X (.UnaryOp op a pos) (tUn r ta) := by
 intro pins s Z H Q I h
 exact UnaryOp_ (ZR (ha pins s Z H _ I h) λv s1 ⟨x, H1, I1, r1, q1⟩ => ho pins s1 Z H1 x v Q I1 r1 q1)
def opI {f : Value -> Value -> Sem Value} {C : Int -> Int -> Prop} {g : Int -> Int -> Int}
  (rule : ∀ (i j : Int) (t u : Tok) (s : Shared) (Q : Value -> Shared -> Prop) (E : Value -> Shared -> Prop), C i j -> Q (.int (g i j) s.toks) { s with toks := s.toks + 1 } -> wpAny (model X.prog X.w) X.A (f (.int i t) (.int j u)) Q E s) :
  OpR X f (rI C λi j => .int (g i j)) := by
 intro pins s Z H x y v u Q I rx ry h
 obtain ⟨i, j, rfl, rfl, hc, q⟩ := h
 obtain ⟨t, rfl⟩ := rx
 obtain ⟨t', rfl⟩ := ry
 exact rule i j t t' s _ _ hc ⟨.int (g i j), H, I.tok _, ⟨_, rfl⟩, q⟩
def ZrG {f : Value -> Value -> Sem Value} {g : Int -> Int -> Int}
  (rule : ∀ (i j : Int) (t u : Tok) (s : Shared) (Q : Value -> Shared -> Prop) (E : Value -> Shared -> Prop), Q (.int (g i j) s.toks) { s with toks := s.toks + 1 } -> wpAny (model X.prog X.w) X.A (f (.int i t) (.int j u)) Q E s) :
  OpR X f (rI0 λi j => .int (g i j)) := by
 intro pins s Z H x y v u Q I rx ry h
 obtain ⟨i, j, rfl, rfl, q⟩ := h
 obtain ⟨t, rfl⟩ := rx
 obtain ⟨t', rfl⟩ := ry
 exact rule i j t t' s _ _ ⟨.int (g i j), H, I.tok _, ⟨_, rfl⟩, q⟩
def ZqF {f : Value -> Value -> Sem Value} {g : Int -> Int -> Bool}
  (rule : ∀ (i j : Int) (t u : Tok) (s : Shared) (Q : Value -> Shared -> Prop) (E : Value -> Shared -> Prop), Q (.bool (g i j)) s -> wpAny (model X.prog X.w) X.A (f (.int i t) (.int j u)) Q E s) :
  OpR X f (rI0 λi j => .bl (g i j)) := by
 intro pins s Z H x y v u Q I rx ry h
 obtain ⟨i, j, rfl, rfl, q⟩ := h
 obtain ⟨t, rfl⟩ := rx
 obtain ⟨t', rfl⟩ := ry
 exact rule i j t t' s _ _ ⟨.bl (g i j), H, I, rfl, q⟩
def ZqI (i j : Int) : Prop := 0 < j /\ j < 1073741824
def ZqH (i j : Int) : Prop := 0 <= j /\ j <= 1000000 /\ i.natAbs < 2 ^ 64
def CMul (i j : Int) : Prop := (-(2 ^ 64) < i /\ i < 2 ^ 64) \/ (-(2 ^ 64) < j /\ j < 2 ^ 64)
theorem CMul.ok {i j : Int} (h : CMul i j) : IntMulOk i j := by
 rcases h with ⟨h1, h2⟩ | ⟨h1, h2⟩
 ·exact .of_left (intBits_le_64 h1 h2)
 ·exact .of_right (intBits_le_64 h1 h2)
def Zqp : OpR X (binaryOp .Add) (rI0 λi j => .int (i + j)) := ZrG λ_ _ _ _ _ _ _ q => add_int q
def ZpA : OpR X (binaryOp .Sub) (rI0 λi j => .int (i - j)) := ZrG λ_ _ _ _ _ _ _ q => sub_int q
def Zqr : OpR X (binaryOp .Mult) (rI CMul λi j => .int (i * j)) := opI λ_ _ _ _ _ _ _ hc q => mul_int q hc.ok
def Zn0 : OpR X (binaryOp .FloorDiv) (rI ZqI λi j => .int (i / j)) := opI λi j _ _ _ _ _ hc q => by
 have h1 : (0 : Int) < j := hc.1
 have h2 : j < 1073741824 := hc.2
 exact floordiv_int (by omega) (by rw [Yaj i (by omega)]; exact q) (.inl (PyProof.noPylong_small (by omega)))
def Zpv : OpR X (binaryOp .Mod) (rI (λ_ j => 0 < j) λi j => .int (i % j)) := opI λi j _ _ _ _ _ hc q => by
 have h1 : (0 : Int) < j := hc
 exact mod_int' (by omega) (by rw [Int.fmod_eq_emod_of_nonneg i (by omega)]; exact q)
def ZpN : OpR X (binaryOp .Pow) (rI ZqH λi j => .int (i ^ j.toNat)) := opI λ_ _ _ _ _ _ _ hc q => pow_int_small hc.1 hc.2.1 hc.2.2 q
def unI {f : Value -> Sem Value} {g : Int -> Int}
  (rule : ∀ (i : Int) (t : Tok) (s : Shared) (Q : Value -> Shared -> Prop) (E : Value -> Shared -> Prop), Q (.int (g i) s.toks) { s with toks := s.toks + 1 } -> wpAny (model X.prog X.w) X.A (f (.int i t)) Q E s) :
  UnR X f (rU λi => .int (g i)) := by
 intro pins s Z H x v Q I rx h
 obtain ⟨i, rfl, q⟩ := h
 obtain ⟨t, rfl⟩ := rx
 exact rule i t s _ _ ⟨.int (g i), H, I.tok _, ⟨_, rfl⟩, q⟩
def ZpL : UnR X (unaryOp .USub) (rU λi => .int (-i)) := unI λ_ _ _ _ _ q => neg_int q
end
def ZqD : V -> V -> Bool
 | .non, .non => true | .non, .int _ => true | .int _, .non => true | .non, .bl _ => true | .bl _, .non => true | .non, .str _ => true | .str _, .non => true
 | .int _, .int _ => true | .bl _, .bl _ => true | .str _, .str _ => true | .byt _, .byt _ => true
 | .int _, .str _ => true | .str _, .int _ => true | .bl _, .str _ => true | .str _, .bl _ => true
 | _, _ => false
def rEq : R2 := λx y H Q => ZqD x y = true /\ Q (.bl (decide (x = y))) H
def rNe : R2 := λx y H Q => ZqD x y = true /\ Q (.bl (!decide (x = y))) H
def ZjY {i j : Int} : decide (V.int i = V.int j) = (i == j) := by
 rw [VQ]
 simp
def ZmS {i j : Bool} : decide (V.bl i = V.bl j) = (i == j) := by
 rw [VQ]
 simp
def Zi5 {i j : Str} : decide (V.str i = V.str j) = (i == j) := by
 rw [VQ]
 simp
def Zjg {i j : Array UInt8} : decide (V.byt i = V.byt j) = (i.toList == j.toList) := by
 rw [VQ]
 cases i
 cases j
 simp
section
variable {X : Cx} {a b c : Expr} {ta tb tc : TE} {pos : Pos}
theorem ZF {pins : List (Addr × Obj)} {Z : St} {H : Hp} {s : Shared} {Q : VK} {k k' : Bool} (I : Inv X pins Z H s) (q : Q (.bl k) H) (e : k = k') : EP X pins Z Q (.bool k') s := by
 subst e
 exact ⟨.bl k, H, I, rfl, q⟩
def Zpo : OpR X (compareOp .Eq) rEq := by
 intro pins s Z H x y v u Q I rx ry h
 obtain ⟨hs, q⟩ := h
 cases x with
 | non =>
  cases rx
  cases y with
  | non => cases ry; exact PySem.EqNone.eq_none_none (ZF I q (by simp))
  | bl j => cases ry; exact PySem.EqNone.eq_none_bool (ZF I q (by simp))
  | int j => obtain ⟨t', rfl⟩ := ry; exact PySem.EqNone.eq_none_int (ZF I q (by simp))
  | str j => obtain ⟨t', rfl⟩ := ry; exact PySem.EqNone.eq_none_str (ZF I q (by simp))
  | _ => exact absurd (show false = true from hs) Yy
 | bl i =>
  cases rx
  cases y with
  | non => cases ry; exact PySem.EqNone.eq_bool_none (ZF I q (by simp))
  | bl j => cases ry; exact eq_bool (ZF I q ZmS)
  | str j => obtain ⟨t', rfl⟩ := ry; exact PySem.EqMixed.eq_bool_str (ZF I q (by simp))
  | _ => exact absurd (show false = true from hs) Yy
 | int i =>
  obtain ⟨t, rfl⟩ := rx
  cases y with
  | non => cases ry; exact PySem.EqNone.eq_int_none (ZF I q (by simp))
  | int j => obtain ⟨t', rfl⟩ := ry; exact eq_int (ZF I q ZjY)
  | str j => obtain ⟨t', rfl⟩ := ry; exact PySem.EqMixed.eq_int_str (ZF I q (by simp))
  | _ => exact absurd (show false = true from hs) Yy
 | str i =>
  obtain ⟨t, rfl⟩ := rx
  cases y with
  | non => cases ry; exact PySem.EqNone.eq_str_none (ZF I q (by simp))
  | bl j => cases ry; exact PySem.EqMixed.eq_str_bool (ZF I q (by simp))
  | int j => obtain ⟨t', rfl⟩ := ry; exact PySem.EqMixed.eq_str_int (ZF I q (by simp))
  | str j => obtain ⟨t', rfl⟩ := ry; exact eq_str (ZF I q Zi5)
  | _ => exact absurd (show false = true from hs) Yy
 | byt i =>
  obtain ⟨t, rfl⟩ := rx
  cases y with
  | byt j => obtain ⟨t', rfl⟩ := ry; exact PySem.W.eq_bytes (ZF I q Zjg)
  | _ => exact absurd (show false = true from hs) Yy
 | _ => cases y <;> exact absurd (show false = true from hs) Yy
def ZrB : OpR X (compareOp .NotEq) rNe := by
 intro pins s Z H x y v u Q I rx ry h
 obtain ⟨hs, q⟩ := h
 cases x with
 | non =>
  cases rx
  cases y with
  | non => cases ry; exact PySem.EqNone.ne_none_none (ZF I q (by simp))
  | bl j => cases ry; exact PySem.EqNone.ne_none_bool (ZF I q (by simp))
  | int j => obtain ⟨t', rfl⟩ := ry; exact PySem.EqNone.ne_none_int (ZF I q (by simp))
  | str j => obtain ⟨t', rfl⟩ := ry; exact PySem.EqNone.ne_none_str (ZF I q (by simp))
  | _ => exact absurd (show false = true from hs) Yy
 | bl i =>
  cases rx
  cases y with
  | non => cases ry; exact PySem.EqNone.ne_bool_none (ZF I q (by simp))
  | bl j => cases ry; exact ne_bool (ZF I q (congrArg not ZmS))
  | str j => obtain ⟨t', rfl⟩ := ry; exact PySem.EqMixed.ne_bool_str (ZF I q (by simp))
  | _ => exact absurd (show false = true from hs) Yy
 | int i =>
  obtain ⟨t, rfl⟩ := rx
  cases y with
  | non => cases ry; exact PySem.EqNone.ne_int_none (ZF I q (by simp))
  | int j => obtain ⟨t', rfl⟩ := ry; exact ne_int (ZF I q (congrArg not ZjY))
  | str j => obtain ⟨t', rfl⟩ := ry; exact PySem.EqMixed.ne_int_str (ZF I q (by simp))
  | _ => exact absurd (show false = true from hs) Yy
 | str i =>
  obtain ⟨t, rfl⟩ := rx
  cases y with
  | non => cases ry; exact PySem.EqNone.ne_str_none (ZF I q (by simp))
  | bl j => cases ry; exact PySem.EqMixed.ne_str_bool (ZF I q (by simp))
  | int j => obtain ⟨t', rfl⟩ := ry; exact PySem.EqMixed.ne_str_int (ZF I q (by simp))
  | str j => obtain ⟨t', rfl⟩ := ry; exact ne_str (ZF I q (congrArg not Zi5))
  | _ => exact absurd (show false = true from hs) Yy
 | byt i =>
  obtain ⟨t, rfl⟩ := rx
  cases y with
  | byt j => obtain ⟨t', rfl⟩ := ry; exact PySem.W.ne_bytes (ZF I q (congrArg not Zjg))
  | _ => exact absurd (show false = true from hs) Yy
 | _ => cases y <;> exact absurd (show false = true from hs) Yy
theorem ZoK : OpR X (compareOp .Lt) (rI0 λi j => .bl (decide (i < j))) := ZqF λ_ _ _ _ _ _ _ q => lt_int q
theorem Zq0 : OpR X (compareOp .LtE) (rI0 λi j => .bl (decide (i <= j))) := ZqF λ_ _ _ _ _ _ _ q => le_int q
def ZqX : OpR X (compareOp .Gt) (rI0 λi j => .bl (decide (j < i))) := ZqF λ_ _ _ _ _ _ _ q => gt_int q
def Zo9 : OpR X (compareOp .GtE) (rI0 λi j => .bl (decide (j <= i))) := ZqF λ_ _ _ _ _ _ _ q => ge_int q
def ZnO : OpR X (compareOp .IsNot) (λx y H Q => y = .non /\ Q (.bl (!decide (x = .non))) H) := by
 intro pins s Z H x y v u Q I rx ry h
 obtain ⟨rfl, q⟩ := h
 cases ry
 refine isnot_none_gen (ZF I q ?_)
 cases x <;> first
  | (cases rx; rfl)
  | (obtain ⟨t, rfl⟩ := rx; rfl)
def OpR.or {f : Value -> Value -> Sem Value} {r r' : R2} (h : OpR X f r) (h' : OpR X f r') : OpR X f (λx y H Q => r x y H Q \/ r' x y H Q) := by
 intro pins s Z H x y v u Q I rx ry q
 rcases q with q | q
 ·exact h pins s Z H x y v u Q I rx ry q
 ·exact h' pins s Z H x y v u Q I rx ry q
def JB (b : Expr) {op : CmpOp} (h : op ≠ .In := by decide) (h2 : op ≠ .NotIn := by decide) : behindInMarks op b = false := by
 have e1 : (op == CmpOp.In) = false := by cases op <;> first | rfl | exact absurd rfl h
 have e2 : (op == CmpOp.NotIn) = false := by cases op <;> first | rfl | exact absurd rfl h2
 cases b <;> simp [behindInMarks, e1, e2]
theorem ZcW {op : CmpOp} {r : R2} (ho : OpR X (compareOp op) r) (ha : PE X a ta) (hb : PE X b tb) (hm : behindInMarks op b = false) : PE X (.Compare a [op] [b] pos) (tOp r ta tb) := by
 intro pins s Z H Q I h
 exact wpAny_Compare1 (Zrj ha hb I h λv u s2 x y H2 I2 rx ry q => ho pins s2 Z H2 x y v u Q I2 rx ry q) hm
def JP (t : TE) : TT := λZ H Q => t Z H λx H' => ∃ k, x = .bl k /\ Q k H'
theorem Za8 {op : CmpOp} {r : R2} (ho : OpR X (compareOp op) r) (ha : PE X a ta) (hb : PE X b tb) (hm : behindInMarks op b = false) : PT X (.Compare a [op] [b] pos) (JP (tOp r ta tb)) := by
 intro pins s Z H Q I h
 refine wpAny_isTrue_Compare1 (ZR (ha pins s Z H _ I h) λv s1 ⟨x, H1, I1, r1, q1⟩ => ZR (hb pins s1 Z H1 _ I1 q1) λu s2 ⟨y, H2, I2, r2, q2⟩ =>
  ZR (ho pins s2 Z H2 x y v u _ I2 r1 r2 q2) λc s3 ⟨z, H3, I3, r3, k, e, q3⟩ => ?_) hm
 subst e
 cases r3
 exact Vy ⟨H3, I3, q3⟩
def Zg8 (r r' : R2) (ta tb tc : TE) : TE := λZ H Q => ta Z H λx H1 => tb Z H1 λy H2 => r x y H2 λz H3 => ∃ k, z = .bl k /\
 (if k = true then tc Z H3 λw' H4 => r' y w' H4 Q else Q (.bl false) H3)
theorem Zly {op op' : CmpOp} {r r' : R2} (ho : OpR X (compareOp op) r) (ho' : OpR X (compareOp op') r') (ha : PE X a ta) (hb : PE X b tb) (hc : PE X c tc)
  (hm : lastMarks [op, op'] [b, c] = false := by with_unfolding_all rfl) : PE X (.Compare a [op, op'] [b, c] pos) (Zg8 r r' ta tb tc) := by
 intro pins s Z H Q I h
 refine Compare_chain (ZR (ha pins s Z H _ I h) λv s1 ⟨x, H1, I1, r1, q1⟩ => chain_link (ZR (hb pins s1 Z H1 _ I1 q1) λu s2 ⟨y, H2, I2, r2, q2⟩ =>
  ZR (ho pins s2 Z H2 x y v u _ I2 r1 r2 q2) λd s3 ⟨z, H3, I3, r3, k, e, q3⟩ => ?_)) hm
 subst e
 cases r3
 refine Vy ?_
 cases k with
 | false => exact ite_ff ⟨.bl false, H3, I3, rfl, q3⟩
 | true => exact ite_tt (chain_last (ZR (hc pins s3 Z H3 _ I3 q3) λw' s4 ⟨z', H4, I4, r4, q4⟩ => ho' pins s4 Z H4 y z' u w' Q I4 r2 r4 q4))
def Ze7 : (sizeLine : Nat) < 2 ^ 63 := by rw [YJ]; decide
def ZhG : OpR X (binaryOp .Add) (λx y H Q => ∃ i j, x = .str i /\ y = .str j /\ i.length + j.length <= sizeLine /\ Q (.str (i ++ j)) H) := by
 intro pins s Z H x y v u Q I rx ry h
 obtain ⟨i, j, rfl, rfl, hz, q⟩ := h
 obtain ⟨t, rfl⟩ := rx
 obtain ⟨t', rfl⟩ := ry
 exact add_str (λt' tk => ⟨.str (i ++ j), H, I.tok _, ⟨_, rfl⟩, q⟩) hz
def Jq {x : V} {us : List Value} (r : Vals [x] us) : ∃ u, us = [u] /\ RelV x u := by
 cases r with
 | cons r1 r2 => cases r2; exact ⟨_, rfl, r1⟩
def ZhS {x y : V} {us : List Value} (r : Vals [x, y] us) : ∃ u w', us = [u, w'] /\ RelV x u /\ RelV y w' := by
 cases r with
 | cons r1 r2 =>
  cases r2 with
  | cons r3 r4 => cases r4; exact ⟨_, _, rfl, r1, r3⟩
def Zlj : CallR X (.builtin "abs") (λxs H Q => ∃ i, xs = [.int i] /\ Q (.int (if i < 0 then -i else i)) H) := by
 intro pins s Z H xs us Q I r h
 obtain ⟨i, rfl, q⟩ := h
 obtain ⟨u, rfl, t, rfl⟩ := Jq r
 exact call_abs_int λu tk => ⟨.int (if i < 0 then -i else i), H, I.tok _, ⟨_, rfl⟩, q⟩
def ZjO (hc : X.calm = true) : CallR X (.builtin "max") (λxs H Q => ∃ i j, xs = [.int i, .int j] /\ Q (.int (if j > i then j else i)) H) := by
 intro pins s Z H xs us Q I r h
 obtain ⟨i, j, rfl, q⟩ := h
 obtain ⟨u, w', rfl, ⟨t, rfl⟩, ⟨t', rfl⟩⟩ := ZhS r
 refine max_two_ints (I.ok.hd hc) λh' tk k => ⟨_, H, I.kept k, ?_, q⟩
 by_cases hj : j > i
 ·rw [if_pos hj, if_pos hj]; exact ⟨_, rfl⟩
 ·rw [if_neg hj, if_neg hj]; exact ⟨_, rfl⟩
def Zj4 (hc : X.calm = true) : CallR X (.builtin "min") (λxs H Q => ∃ i j, xs = [.int i, .int j] /\ Q (.int (if j < i then j else i)) H) := by
 intro pins s Z H xs us Q I r h
 obtain ⟨i, j, rfl, q⟩ := h
 obtain ⟨u, w', rfl, ⟨t, rfl⟩, ⟨t', rfl⟩⟩ := ZhS r
 refine min_two_ints (I.ok.hd hc) λh' tk k => ⟨_, H, I.kept k, ?_, q⟩
 by_cases hj : j < i
 ·rw [if_pos hj, if_pos hj]; exact ⟨_, rfl⟩
 ·rw [if_neg hj, if_neg hj]; exact ⟨_, rfl⟩
def Zkn : CallR X (.type "int") (λxs H Q => (∃ i, xs = [.int i] /\ Q (.int i) H) \/ ∃ k, xs = [.bl k] /\ Q (.int (if k then 1 else 0)) H) := by
 intro pins s Z H xs us Q I r h
 rcases h with ⟨i, rfl, q⟩ | ⟨k, rfl, q⟩
 ·obtain ⟨u, rfl, t, rfl⟩ := Jq r
  exact call_int_int ⟨.int i, H, I, ⟨_, rfl⟩, q⟩
 ·obtain ⟨u, rfl, r1⟩ := Jq r
  cases r1
  exact call_int_bool ⟨.int (if k then 1 else 0), H, I.tok _, ⟨_, rfl⟩, q⟩
end
structure ObjM (h : Heap) (x dx C : Addr) (mA : Str -> Option Value) : Prop where
 obj : h.get? x = some (instObj C dx)
 ns : h.Ns1 dx mA
 ne : dx ≠ x
def ZjC {h : Heap} {dx : Addr} {mA : Str -> Option Value} (n : h.Ns1 dx mA) : ∃ od, h.get? dx = some od /\ ∀ name, lookIn name od = some (mA name) := by
 obtain ⟨o, es, ep, ho, hd, hk, _, hm⟩ := n
 refine ⟨o, ho, λname => ?_⟩
 have e := hm name
 unfold nsFind findBy at e
 rw [<- Array.find?_toList] at e
 unfold lookIn
 rw [hd]
 dsimp only
 split
 ·rename_i y q
  rw [q] at e
  exact congrArg some e
 ·rename_i q
  rw [q] at e
  have a : es.toList.any (·.refKey) = false := by
   rw [List.any_eq_false]
   intro y hy
   obtain ⟨z, t, hkey⟩ := hk y (Array.mem_toList_iff.mp hy)
   simp [DictEntry.refKey, hkey]
  have a' : ¬ es.toList.any (·.refKey) = true := by rw [a]; exact Yy
  rw [if_neg a']
  exact congrArg some e
def ObjM.look {h : Heap} {x dx C : Addr} {mA : Str -> Option Value} (I : ObjM h x dx C mA) : ∃ od, PySem.W.InstAt h x (instObj C dx) C (some od) /\ ∀ name, lookIn name od = some (mA name) :=
 let ⟨od, ho, hl⟩ := ZjC I.ns
 ⟨od, ⟨I.obj, rfl, rfl, ho⟩, hl⟩
section
variable {prog : Program} {w : World} {A : Around} {E : Value -> Shared -> Prop} {s : Shared} {K : PySem.W.Frag} {x dx C f : Addr} {mA : Str -> Option Value} {name : Str} {v : Value}
def Zne {expr : Bool} {Q : Value -> Shared -> Prop} (X : K.In s.heap) (I : ObjM s.heap x dx C mA) (hg : plainGet K C name = true) (hh : hasDictIn K C = true)
  (ha : PySem.W.findIn K (.ref C) name = some none) (hv : mA name = some v) (hv' : handedIn v = true) (h : Q v { s with toks := s.toks + 1 }) :
  wpAny (model prog w) A (getAttr (.ref x) name expr) Q E s := by
 obtain ⟨od, J, hl⟩ := I.look
 exact PySem.W.get_value X J (plainGet_of hg).1 (PySem.W.findObj_own hh ha rfl (by rw [hl, hv])) hv' h
def ZkZ {pl : Sem Bool} {Q : Value × List Value -> Shared -> Prop} (X : K.In s.heap) (I : ObjM s.heap x dx C mA) (hg : plainGet K C name = true)
  (hf : PySem.W.findIn K (.ref C) name = some (some (.ref f))) (ht : isFn K (.ref f) = true) (hv : mA name = none) (h : Q (.ref f, [.ref x]) s) :
  wpAny (model prog w) A (getMethod (.ref x) name pl) Q E s := by
 obtain ⟨od, J, hl⟩ := I.look
 exact PySem.W.method_fn X J (plainGet_of hg).1 (plainGet_of hg).2 hf (V0.mp ht) (by show (lookIn name od).map (·.isSome) = some false; rw [hl, hv]; rfl) h
def ZnQ {ns : List Str} {Q : Unit -> Shared -> Prop} (X : K.In s.heap) (I : ObjM s.heap x dx C mA)
  (hs : PySem.W.findIn K (.ref C) "__setattr__" = some (some (.builtin "object.__setattr__"))) (hp : plainOver K C = true) (ht : takerIn K C name = some none) (hh : hasDictIn K C = true)
  (hw : PySem.Within mA ns) (hsz : ns.length <= sizeLine)
  (h : ∀ h', ObjM h' x dx C (λy => if y = name then some v else mA y) -> Heap.SameBut dx s.heap h' -> Q () { s with heap := h', toks := s.toks + 2 }) :
  wpAny (model prog w) A (setAttr (.ref x) name v) Q E s := by
 obtain ⟨od, J, hl⟩ := I.look
 refine PySem.W.set_plain X J hs (PySem.W.osa_open (s := { s with toks := s.toks + 1 }) (r := none) X J hp ht λb => ?_)
 obtain ⟨cd, hc, hd'⟩ := PySem.W.any_some hh
 have hx : s.heap.get? x = some ⟨.ref C, some dx, .plain, #[]⟩ := I.obj
 refine Ya (Yb (Ya (Ya (wpAny_loadPart hx (Ya (PySem.W.Looks.here (s := { s with toks := s.toks + 1 }) (PySem.W.looks_clsIn X hc) ?_))))))
 rw [hd']
 refine Yb (a := some dx) (Ya (Yb (Ya ?_)))
 refine wpAny_nsSet1 (s := { s with toks := s.toks + 1 }) I.ns λh' hn2 hs2 => ?_
 obtain ⟨oD, esD, epD, hoD, hdD, hcD⟩ := hn2.count (PySem.Within.cons name v hw)
 refine Ya (wpAny_lookBehind hoD (by rw [hdD]; exact pastItsLine_dict (Yh hcD (by rw [YQ]; omega))) ?_)
 exact Yb (h _ ⟨(hs2.2 _ (Ne.symm I.ne)).trans I.obj, hn2, I.ne⟩ hs2)
def Zk6 {R : Result -> Shared -> Prop} {vs : List Value} {kw : List (Str × Value)} (X : K.In s.heap) (hm : makesIn K C = true)
  (hi : PySem.W.findIn K (.ref C) "__init__" = some (some (.ref f))) (hf : PySem.W.typeIn K (.ref f) = some (.type "function"))
  (h : codeAny (model prog w) (A.under (.builtin "type.__call__" ⟨.ref C :: vs, kw⟩)) (.call (.ref f) ⟨.ref (s.heap.objs.size + 1) :: vs, kw⟩) (PySem.W.InitBack (s.heap.objs.size + 1) R)
   { s with heap := (s.heap.push emptyDict).push (instObj C s.heap.objs.size) }) :
  codeAny (model prog w) A (.call (.ref C) ⟨vs, kw⟩) R s := by
 obtain ⟨hh, g, d, t, os⟩ := s
 exact PySem.W.make_core (PySem.W.makes_of X hm) (PySem.W.looks_findIn X hi) (λself => PySem.W.bind_fn X self hf) (.inl rfl) h
end
def JW (f : Str) (v : V) : List (Str × V) -> List (Str × V)
 | [] => [(f, v)]
 | (g, x) :: r => if g = f then (g, v) :: r else (g, x) :: JW f v r
def ZcR (f g : Str) (v : V) : ∀ fs : List (Str × V), (JW f v fs).lookup g = if g = f then some v else fs.lookup g
 | [] => by
  show List.lookup g [(f, v)] = _
  by_cases h : g = f
  ·have hb : (g == f) = true := V0.mpr h
   simp only [List.lookup, hb, if_pos h]
  ·have hb : (g == f) = false := VG.mpr h
   simp only [List.lookup, hb, if_neg h]
 | (k, x) :: r => by
  have ih := ZcR f g v r
  rw [show JW f v ((k, x) :: r) = (if k = f then (k, v) :: r else (k, x) :: JW f v r) from rfl]
  by_cases hk : k = f
  ·rw [if_pos hk]
   by_cases h : g = k
   ·have hb : (g == k) = true := V0.mpr h
    simp only [List.lookup, hb, if_pos (h.trans hk)]
   ·have hb : (g == k) = false := VG.mpr h
    simp only [List.lookup, hb, if_neg (λe : g = f => h (e.trans hk.symm))]
  ·rw [if_neg hk]
   by_cases h : g = k
   ·have hb : (g == k) = true := V0.mpr h
    simp only [List.lookup, hb, if_neg (λe : g = f => hk (h.symm.trans e))]
   ·have hb : (g == k) = false := VG.mpr h
    simp only [List.lookup, hb]
    exact ih
def ZdK (f : Str) (v : V) : ∀ fs : List (Str × V), f ∈ (JW f v fs).map (·.1) /\ ∀ g, g ∈ fs.map (·.1) -> g ∈ (JW f v fs).map (·.1)
 | [] => ⟨by simp [JW], λg h => by simp at h⟩
 | (k, x) :: r => by
  obtain ⟨i1, i2⟩ := ZdK f v r
  rw [show JW f v ((k, x) :: r) = (if k = f then (k, v) :: r else (k, x) :: JW f v r) from rfl]
  by_cases hk : k = f
  ·rw [if_pos hk]
   subst hk
   exact ⟨by simp, λg h => by simpa using h⟩
  ·rw [if_neg hk]
   refine ⟨?_, λg h => ?_⟩
   ·rw [Yr]
    exact YZ _ i1
   ·rw [Yr] at h ⊢
    rcases Ym.mp h with e | e
    ·exact Ym.mpr (.inl e)
    ·exact YZ _ (i2 g e)
def Zc3 (f : Str) (v : V) : ∀ fs : List (Str × V), (JW f v fs).length <= fs.length + 1
 | [] => by simp [JW]
 | (k, x) :: r => by
  have ih := Zc3 f v r
  rw [show JW f v ((k, x) :: r) = (if k = f then (k, v) :: r else (k, x) :: JW f v r) from rfl]
  by_cases hk : k = f
  ·rw [if_pos hk, YQ, YQ]; omega
  ·rw [if_neg hk, YQ, YQ]; omega
def RelO.some_of {v : V} {o : Option Value} (r : RelO (some v) o) : ∃ u, o = some u /\ RelV v u := by
 cases o with
 | none => exact (show False from r).elim
 | some u => exact ⟨u, rfl, r⟩
def RelO.none_of {o : Option Value} (r : RelO none o) : o = none := by
 cases o with
 | none => rfl
 | some u => exact (show False from r).elim
def ZiO {v : V} {u : Value} (r : RelV v u) : handedIn u = true := by
 cases v with
 | non => cases (show u = Value.none from r); rfl
 | bl b => cases (show u = Value.bool b from r); rfl
 | int i => obtain ⟨t, e⟩ := (show ∃ t, u = Value.int i t from r); cases e; rfl
 | str x => obtain ⟨t, e⟩ := (show ∃ t, u = Value.str x t from r); cases e; rfl
 | byt b => obtain ⟨t, e⟩ := (show ∃ t, u = Value.bytes b t from r); cases e; rfl
 | flt b => obtain ⟨t, e⟩ := (show ∃ t, u = Value.float b t from r); cases e; rfl
 | ref a => cases (show u = Value.ref a from r); rfl
 | ty n => cases (show u = Value.type n from r); rfl
section
variable {P : Program} {w : World} {H H' : Hp} {h h' : Heap} {a C dx : Addr} {fs fs' : List (Str × V)}
def Zer (hok : HOk P w H h) (e : H a = some (.ins C dx fs)) : ∃ mA, ObjM h a dx C mA /\ (∀ f, RelO (fs.lookup f) (mA f)) /\ PySem.Within mA (fs.map (·.1)) /\ fs.length <= 1000 /\ H dx = some (.own a) := by
 obtain ⟨d, z, ne, ob, mA, n, r, q⟩ := (show ObjOk P w H h a (.ins C dx fs) from hok a _ e)
 exact ⟨mA, ⟨ob, n, ne⟩, r, q, z, d⟩
end
structure Cls (K : PySem.W.Frag) (C : Addr) : Prop where
 pg : plainGet K C Str.empty = true
 hd : hasDictIn K C = true
 po : plainOver K C = true
 sa : PySem.W.findIn K (.ref C) "__setattr__" = some (some (.builtin "object.__setattr__"))
theorem Cls.get {K : PySem.W.Frag} {C : Addr} (c : Cls K C) (f : Str) : plainGet K C f = true := c.pg
def NoAttr (K : PySem.W.Frag) (C : Addr) (f : Str) : Prop := PySem.W.findIn K (.ref C) f = some none
def NoAttr.taker {K : PySem.W.Frag} {C : Addr} {f : Str} (n : NoAttr K C f) : takerIn K C f = some none := by
 unfold takerIn
 rw [show PySem.W.findIn K (.ref C) f = some none from n]
 rfl
structure Con (K : PySem.W.Frag) (C : Addr) (f : Str) (v : V) (u : Value) : Prop where
 at_ : PySem.W.findIn K (.ref C) f = some (some u)
 rel : RelV v u
 get : PySem.W.specialIn K u "__get__" = some none
 cp : PySem.W.copiedNames.contains f = false
structure Meth (K : PySem.W.Frag) (C : Addr) (m : Str) (f : Addr) : Prop where
 at_ : PySem.W.findIn K (.ref C) m = some (some (.ref f))
 fn : isFn K (.ref f) = true
 kp : keepIn K (.ref f) = true
section
variable {X : Cx} {pins : List (Addr × Obj)} {Z : St} {H : Hp} {s : Shared} {a C dx : Addr} {fs : List (Str × V)} {f : Str} {v : V} {A : Around} {E : Value -> Shared -> Prop}
def Zia {b : Bool} {Q : Value -> Shared -> Prop} (I : Inv X pins Z H s) (e : H a = some (.ins C dx fs)) (c : Cls X.K C) (n : NoAttr X.K C f) (l : fs.lookup f = some v)
  (h : ∀ u s', Inv X pins Z H s' -> RelV v u -> Q u s') : wpAny (model X.prog X.w) A (getAttr (.ref a) f b) Q E s := by
 obtain ⟨mA, O, r, _, _, _⟩ := Zer I.hok e
 obtain ⟨u, hu, ru⟩ := RelO.some_of (v := v) (o := mA f) (by rw [<- l]; exact r f)
 exact Zne I.kIn O (c.get f) c.hd n hu (ZiO ru) (h u _ (I.tok _) ru)
def Zd8 {m : Str} {g : Addr} {pl : Sem Bool} {Q : Value × List Value -> Shared -> Prop} (I : Inv X pins Z H s) (e : H a = some (.ins C dx fs)) (c : Cls X.K C) (k : Meth X.K C m g) (l : fs.lookup m = none)
  (h : Q (.ref g, [.ref a]) s) : wpAny (model X.prog X.w) A (getMethod (.ref a) m pl) Q E s := by
 obtain ⟨mA, O, r, _, _, _⟩ := Zer I.hok e
 have hn : mA m = none := RelO.none_of (by rw [<- l]; exact r m)
 exact ZkZ I.kIn O (c.get m) k.at_ k.fn hn h
def ZhD {y : V} {u : Value} {Q : Unit -> Shared -> Prop} (I : Inv X pins Z H s) (e : H a = some (.ins C dx fs)) (c : Cls X.K C) (n : NoAttr X.K C f) (hl : fs.length < 1000) (ry : RelV y u)
  (h : ∀ s', Inv X pins Z (upd H a (.ins C dx (JW f y fs))) s' -> Q () s') : wpAny (model X.prog X.w) A (setAttr (.ref a) f u) Q E s := by
 obtain ⟨mA, O, r, wi, _, ho⟩ := Zer I.hok e
 have hz : (fs.map (·.1)).length <= sizeLine := by rw [Yg, YJ]; omega
 refine ZnQ I.kIn O c.sa c.po n.taker c.hd wi hz λh' O' sb => h _ ?_
 have hd : ∃ o, h'.get? dx = some o := let ⟨o, _, _, e', _⟩ := O'.ns; ⟨o, e'⟩
 refine I.write (x := a) (e := dx) (by rw [e]; exact True.intro) (.inr ho) (λb q hb z => (sb.2 b hb).trans z) hd ?_
 refine ⟨by rw [Ze O.ne]; exact ho, ?_, O.ne, O'.obj, _, O'.ns, λg => ?_, λg hg => ?_⟩
 ·have := Zc3 f y fs; omega
 ·show RelO ((JW f y fs).lookup g) (if g = f then some u else mA g)
  rw [ZcR]
  by_cases q : g = f
  ·rw [if_pos q, if_pos q]; exact ry
  ·rw [if_neg q, if_neg q]; exact r g
 ·by_cases q : g = f
  ·rw [q]; exact (ZdK f y fs).1
  ·refine (ZdK f y fs).2 g (wi g λz => hg ?_)
   show (if g = f then some u else mA g) = none
   rw [if_neg q]; exact z
def Inv.made (I : Inv X pins Z H s) : Inv X pins Z (upd (upd H s.heap.objs.size (.own (s.heap.objs.size + 1))) (s.heap.objs.size + 1) (.ins C s.heap.objs.size []))
  { s with heap := (s.heap.push emptyDict).push (instObj C s.heap.objs.size) } := by
 have e1 : (s.heap.push emptyDict).get? s.heap.objs.size = some emptyDict := Yn s.heap rfl
 have e2 : ((s.heap.push emptyDict).push (instObj C s.heap.objs.size)).get? (s.heap.objs.size + 1) = some (instObj C s.heap.objs.size) := by
  have := Yn (s.heap.push emptyDict) (o := instObj C s.heap.objs.size) rfl
  rwa [Yae] at this
 have e3 : (s.heap.push emptyDict).Ns s.heap.objs.size (λ_ => none) := ⟨emptyDict, #[], _, e1, rfl, (λe he => absurd he (by simp)), λ_ => rfl⟩
 have I1 := I.laid (a := s.heap.objs.size) (o := .own (s.heap.objs.size + 1)) (h' := s.heap.push emptyDict) (t' := s.toks) (λb u q => Yf _ q) (Yd _) ⟨_, e1⟩
 refine I1.laid (a := s.heap.objs.size + 1) (o := .ins C s.heap.objs.size []) (t' := s.toks) (λb u q => Yf _ q) (Vp (Yae _ _)) ?_
 have ne : s.heap.objs.size ≠ s.heap.objs.size + 1 := Yl (V7 _)
 refine ⟨by rw [Ze ne, upd_same], YA _, ne, e2, λ_ => none, (Heap.Ns1.of_empty e3).at λo q => Yf _ q, λ_ => True.intro, λy hy => absurd rfl hy⟩
def ZnB {prog : Program} {w : World} {env : Env} {e : Expr} {f : Str} {pos : Pos} {s : Shared} {Q : Value -> Shared -> Prop} (hb : attributeBase e f env (eval e env) = eval e env)
  (h : wpAny (model prog w) A (eval e env) (λo s₁ => wpAny (model prog w) A (getAttr o f true) Q E s₁) E s) : wpAny (model prog w) A (eval (.Attribute e f pos) env) Q E s :=
 Attribute_any_ h (by rw [arm_eval_Attribute, hb])
end
def Zpn (K : PySem.W.Frag) (ta : TE) (f : Str) : TE := λZ H Q => ta Z H λx H1 => ∃ a C dx fs v, x = .ref a /\ H1 a = some (.ins C dx fs) /\ Cls K C /\ NoAttr K C f /\ fs.lookup f = some v /\ Q v H1
def ZqB (K : PySem.W.Frag) (ta tv : TE) (f : Str) : TS := λD Z H => tv Z H λy H1 => ta Z H1 λx H2 => ∃ a C dx fs, x = .ref a /\ H2 a = some (.ins C dx fs) /\ Cls K C /\ NoAttr K C f /\ fs.length < 1000 /\
 D.nx Z (upd H2 a (.ins C dx (JW f y fs)))
section
variable {X : Cx} {o e value : Expr} {f : Str} {pos pos' tpos : Pos} {ta tv : TE}
def ZmG (he : PE X e ta) (hb : attributeBase e f X.env (eval e X.env) = eval e X.env) : PE X (.Attribute e f pos) (Zpn X.K ta f) := by
 intro pins s Z H Q I h
 refine ZnB hb (ZR (he pins s Z H _ I h) λu s1 ⟨x, H1, I1, rx, a, C, dx, fs, v, ex, ea, c, n, l, q⟩ => ?_)
 subst ex
 obtain rfl : u = Value.ref a := rx
 exact Zia I1 ea c n l λu' s2 I2 ru => ⟨v, H1, I2, ru, q⟩
def Zqz (ha : PE X o ta) (hv : PE X value tv) (hs : swapsWith value (some (.Attribute o f pos')) pos.line X.env = pure false) : PS X (.Assign [.Attribute o f pos'] value pos) (ZqB X.K ta tv f) := by
 intro pins s Z H D I h
 refine plainObj_wpAny_Assign_Attribute (ZR (hv pins s Z H _ I h) λu s1 ⟨y, H1, I1, ry, q⟩ => ZR (ha pins s1 Z H1 _ I1 q) λov s2 ⟨x, H2, I2, rx, a, C, dx, fs, ex, ea, c, n, l, q2⟩ => ?_) hs
 subst ex
 obtain rfl : ov = Value.ref a := rx
 exact ZhD I2 ea c n l ry λs3 I3 => ⟨Z, _, I3, q2⟩
end
section
variable {X : Cx} {pins : List (Addr × Obj)} {Z : St} {H : Hp} {s : Shared} {A : Around} {E : Value -> Shared -> Prop} {Q : Value -> Shared -> Prop} {c : Value} {b : Bool}
inductive TyOf (K : PySem.W.Frag) (H : Hp) : V -> Value -> Prop where
 | non : TyOf K H .non (.type "NoneType")
 | bl (x : Bool) : TyOf K H (.bl x) (.type "bool")
 | int (i : Int) : TyOf K H (.int i) (.type "int")
 | str (x : Str) : TyOf K H (.str x) (.type "str")
 | flt (x : UInt64) : TyOf K H (.flt x) (.type "float")
 | lst {a : Addr} {xs : List V} (e : H a = some (.lst xs)) : TyOf K H (.ref a) (.type "list")
 | frz {a : Addr} {o : Obj} {xs : List V} (e : H a = some (.frz o (.lst xs))) : TyOf K H (.ref a) (.type "list")
 | tup {a : Addr} {xs : List V} (e : H a = some (.tup xs)) : TyOf K H (.ref a) (.type "tuple")
 | dK {a : Addr} {kvs : List (ZC × V)} (e : H a = some (.dK kvs)) : TyOf K H (.ref a) (.type "dict")
 | dT {a : Addr} {kvs : List (List ZC × V)} (e : H a = some (.dT kvs)) : TyOf K H (.ref a) (.type "dict")
 | ins {a C dx : Addr} {fs : List (Str × V)} (e : H a = some (.ins C dx fs)) (cl : Cls K C) (ha : PySem.W.findIn K (.ref C) "__class__" = some (some (.builtin "object.__class__")))
   (hn : PySem.W.specialIn K (.builtin "object.__class__") "__get__" = some (some (.builtin "getset_descriptor.__get__"))) (htk : PySem.W.takesIn K (.builtin "object.__class__") = some true)
   (hm : PySem.W.mroIn K C (.type "object") = some true) : TyOf K H (.ref a) (.ref C)
def ZiJ {x : V} {u t : Value} (I : Inv X pins Z H s) (rx : RelV x u) (ty : TyOf X.K H x t) (e : kitOne X.K t c = some b) (h : ∀ tk, Q (.bool b) { s with toks := tk }) :
  wpAny (model X.prog X.w) A (call (.builtin "isinstance") [u, c]) Q E s := by
 cases ty with
 | non => cases (show u = Value.none from rx); exact kia_one PySem.W.kitx_none I.kIn True.intro e (λz => nomatch z) h
 | bl y => cases (show u = Value.bool y from rx); exact kia_one PySem.W.kitx_bool I.kIn True.intro e (λz => nomatch z) h
 | int i => obtain ⟨t, q⟩ := (show ∃ t, u = Value.int i t from rx); cases q; exact kia_one PySem.W.kitx_int I.kIn True.intro e (λz => nomatch z) h
 | str y => obtain ⟨t, q⟩ := (show ∃ t, u = Value.str y t from rx); cases q; exact kia_one PySem.W.kitx_str I.kIn True.intro e (λz => nomatch z) h
 | flt y => obtain ⟨t, q⟩ := (show ∃ t, u = Value.float y t from rx); cases q; exact kia_one PySem.W.kitx_float I.kIn True.intro e (λz => nomatch z) h
 | @lst a xs ea =>
  cases (show u = Value.ref a from rx)
  obtain ⟨_, _, n, _, h1⟩ := (show ObjOk X.prog X.w H s.heap a (.lst xs) from I.hok a _ ea)
  exact kia_one kitx_list I.kIn ⟨_, h1, rfl⟩ e (λz => nomatch z) h
 | @frz a ob xs ea =>
  cases (show u = Value.ref a from rx)
  obtain ⟨_, _, _, n, _, h1⟩ := (show ObjOk X.prog X.w H s.heap a (.frz ob (.lst xs)) from I.hok a _ ea)
  exact kia_one kitx_list I.kIn ⟨_, h1, rfl⟩ e (λz => nomatch z) h
 | @tup a xs ea =>
  cases (show u = Value.ref a from rx)
  obtain ⟨_, _, _, p⟩ := (show ObjOk X.prog X.w H s.heap a (.tup xs) from I.hok a _ ea)
  obtain ⟨o, h1, h2, _⟩ := p
  exact kia_one PySem.W.kitx_tuple I.kIn ⟨o, h1, h2⟩ e (λz => nomatch z) h
 | @dK a kvs ea =>
  cases (show u = Value.ref a from rx)
  obtain ⟨_, _, vs, _, p⟩ := (show ObjOk X.prog X.w H s.heap a (.dK kvs) from I.hok a _ ea)
  obtain ⟨o, es, ep, h1, h2, _⟩ := p
  exact kia_one kitx_dict I.kIn ⟨o, h1, h2.1⟩ e (λz => nomatch z) h
 | @dT a kvs ea =>
  cases (show u = Value.ref a from rx)
  obtain ⟨_, _, xs, _, o, es, ep, h1, h2, _⟩ := (show ObjOk X.prog X.w H s.heap a (.dT kvs) from I.hok a _ ea)
  exact kia_one kitx_dict I.kIn ⟨o, h1, h2.1⟩ e (λz => nomatch z) h
 | @ins a C dx fs ea cl ha hn htk hm =>
  cases (show u = Value.ref a from rx)
  obtain ⟨mA, O, _⟩ := Zer I.hok ea
  obtain ⟨od, J, _⟩ := O.look
  exact kia_one (PySem.W.kitx_own (cl.get _) cl.hd ha hn htk hm) I.kIn J e (λz => nomatch z) h
end
structure Room (k : Nat) (A : Around) : Prop where
 hd : A.handled = none
 dp : A.depth + 3 * k + 5 < recursionLimit
 un : A.units + 16 * k + 200 < cLine
theorem Room.mono {j k : Nat} {A : Around} (r : Room k A) (h : j <= k) : Room j A := ⟨r.hd, by have := r.dp; omega, by have := r.un; omega⟩
theorem Room.deeper {k : Nat} {A : Around} (r : Room (k + 1) A) (env : Env) : Room k (A.deeper env) :=
 ⟨r.hd, by have := r.dp; show A.depth + 1 + 3 * k + 5 < _; omega, by have := r.un; show A.units + 3 + 16 * k + 200 < _; omega⟩
theorem Room.in1 {k : Nat} {A : Around} (r : Room (k + 1) A) : Room k A.in1 :=
 ⟨r.hd, by have := r.dp; show A.depth + 3 * k + 5 < _; omega, by have := r.un; show A.units + 1 + 16 * k + 200 < _; omega⟩
def ZhY {A : Around} {C : Addr} {us : List Value} {kw : List (Str × Value)} : (A.under (.builtin "type.__call__" ⟨.ref C :: us, kw⟩)).depth = A.depth + 1 := by
 first | rfl | simp [Around.under, Code.weight, Code.isCreation, Code.isGuard, Code.isCaller, Code.frames, Code.isFrame, guardIds]
def Zh3 {A : Around} {C : Addr} {us : List Value} {kw : List (Str × Value)} : (A.under (.builtin "type.__call__" ⟨.ref C :: us, kw⟩)).units = A.units + 1 := by
 first | rfl | simp [Around.under, Code.cUnits, Code.frames, Code.isFrame]
def Room.make {k : Nat} {A : Around} (r : Room (k + 1) A) (C : Addr) (us : List Value) (kw : List (Str × Value)) : Room k (A.under (.builtin "type.__call__" ⟨.ref C :: us, kw⟩)) :=
 ⟨r.hd, by have := r.dp; rw [ZhY]; omega, by have := r.un; rw [Zh3]; omega⟩
def Room.depth {k : Nat} {A : Around} (r : Room k A) : A.depth < recursionLimit := by have := r.dp; omega
theorem Room.units {k : Nat} {A : Around} (r : Room k A) : A.units + 64 < cLine := by have := r.un; omega
def Zn5 : TA := λ_ H Q => Q [] H
def Zh2 (ta : TE) (tr : TA) : TA := λZ H Q => ta Z H λx H1 => tr Z H1 λxs H2 => Q (x :: xs) H2
section
variable {X : Cx} {e : Expr} {es : List Expr} {te : TE} {t : TA} {pos : Pos}
def ZmK : PA X [] Zn5 := λ_ _ _ _ H Q I h => Calls.spliced_nil ⟨[], H, I, .nil, h⟩
def ZjE (ha : PE X e te) (hr : PA X es t) (hs : starEach (e :: es) X.env = (false, eval e X.env) :: starEach es X.env := by rfl) : PA X (e :: es) (Zh2 te t) := by
 intro pos pins s Z H Q I h
 rw [hs]
 show wpAny _ _ (spliced ((false, eval e X.env) :: backTo pos (starEach es X.env))) _ _ s
 refine YaA (ZR (ha pins s Z H _ I h) λu s1 ⟨x, H1, I1, r1, q1⟩ => ?_)
 exact ZR (hr pos pins s1 Z H1 _ I1 q1) λus s2 ⟨xs, H2, I2, r2, q2⟩ => ⟨x :: xs, H2, I2, .cons r1 r2, q2⟩
end
abbrev Sp := List V -> Hp -> VK -> XK -> Prop
abbrev CXT := List Env -> Hp -> Shared -> XK -> Value -> Shared -> Prop
structure Env0 (P : Program) (w : World) (K : PySem.W.Frag) (mg : Str -> Option Value) (base : Heap) (A : Around) (outer : List Env) (s : Shared) (H : Hp) : Prop where
 frames : A.frames = some outer
 mod : Mod K mg base
 bs : ∀ b o, base.get? b = some o -> s.heap.get? b = some o /\ H b = none
 bsz : base.objs.size <= s.heap.objs.size
 funs : s.heap.FunFrames base outer
 frf : ∀ b ∈ frs outer, H b = none
 hok : HOk P w H s.heap
 bare : AllBare s.gens
def CE (outer : List Env) (P : Program) (w : World) (H : Hp) (s : Shared) (Q : VK) (u : Value) (s' : Shared) : Prop :=
 ∃ v H', s'.os = s.os /\ AllBare s'.gens /\ Un (frs outer) [] H H' s.heap s'.heap /\ HOk P w H' s'.heap /\ RelV v u /\ Q v H'
def CR (CX : CXT) (outer : List Env) (P : Program) (w : World) (H : Hp) (s : Shared) (Q : VK) (E : XK) (r : Result) (s' : Shared) : Prop :=
 match r with
 | .ok (.ret u) => CE outer P w H s Q u s'
 | .ok _ => False
 | .error e => CX outer H s E e s'
structure FnOk (P : Program) (w : World) (K : PySem.W.Frag) (mg : Str -> Option Value) (base : Heap) (CX : CXT) (k : Nat) (f : Addr) (fd : FuncData) (ps : List Str) (sp : Sp) : Prop where
 len : ∀ vs H Q E, sp vs H Q E -> vs.length = ps.length
 run : ∀ (A : Around) (outer : List Env) (s : Shared) (H : Hp) (args : Args) (us : List Value) (vs : List V) (Q : VK) (E : XK), Room k A -> Env0 P w K mg base A outer s H -> BindsTo s fd args (ps.zip us) -> Vals vs us -> sp vs H Q E ->
  codeAny (model P w) A (.call (.ref f) args) (CR CX outer P w H s Q E) s
theorem FnOk.mono {P : Program} {w : World} {K : PySem.W.Frag} {mg : Str -> Option Value} {base : Heap} {CX : CXT} {j k : Nat} {f : Addr} {fd : FuncData} {ps : List Str} {sp : Sp} (F : FnOk P w K mg base CX j f fd ps sp) (h : j <= k) :
  FnOk P w K mg base CX k f fd ps sp := ⟨F.len, λA outer s H args us vs Q E hr => F.run A outer s H args us vs Q E (hr.mono h)⟩
theorem FnOk.imp {P : Program} {w : World} {K : PySem.W.Frag} {mg : Str -> Option Value} {base : Heap} {CX : CXT} {k : Nat} {f : Addr} {fd : FuncData} {ps : List Str} {sp sp' : Sp} (F : FnOk P w K mg base CX k f fd ps sp)
  (h : ∀ vs H Q E, sp' vs H Q E -> sp vs H Q E) : FnOk P w K mg base CX k f fd ps sp' :=
 ⟨λvs H Q E q => F.len vs H Q E (h _ _ _ _ q), λA outer s H args us vs Q E hr he hb hv hs => F.run A outer s H args us vs Q E hr he hb hv (h _ _ _ _ hs)⟩
def Env0.make {P : Program} {w : World} {K : PySem.W.Frag} {mg : Str -> Option Value} {base : Heap} {A : Around} {outer : List Env} {s : Shared} {H : Hp} (e : Env0 P w K mg base A outer s H) (C : Addr) (us : List Value) (kw : List (Str × Value)) :
  Env0 P w K mg base (A.under (.builtin "type.__call__" ⟨.ref C :: us, kw⟩)) outer s H := ⟨by first | exact e.frames | (simpa [Around.under, Code.envs, Code.isFrame, pushEnvs] using e.frames), e.mod, e.bs, e.bsz, e.funs, e.frf, e.hok, e.bare⟩
theorem Env0.in1 {P : Program} {w : World} {K : PySem.W.Frag} {mg : Str -> Option Value} {base : Heap} {A : Around} {outer : List Env} {s : Shared} {H : Hp} (e : Env0 P w K mg base A outer s H) :
  Env0 P w K mg base A.in1 outer s H := ⟨e.frames, e.mod, e.bs, e.bsz, e.funs, e.frf, e.hok, e.bare⟩
section
variable {X : Cx} {pins : List (Addr × Obj)} {Z : St} {H : Hp} {s s' : Shared}
def Inv.env0 (I : Inv X pins Z H s) : Env0 X.prog X.w X.K X.mg X.base X.A X.stack s H :=
 ⟨I.ok.frames, I.ok.mod, I.bs, Yh I.ok.bsz I.sz, I.stack, I.stkFree, I.hok, I.bare⟩
def Inv.after {Q : VK} {u : Value} (I : Inv X pins Z H s) (h : CE X.stack X.prog X.w H s Q u s') : EP X pins Z Q u s' := by
 obtain ⟨v, H', os, bare, un, hok, r, q⟩ := h
 obtain ⟨hh, g, d, t, os'⟩ := s'
 obtain rfl : os' = s.os := os
 exact ⟨v, H', I.call (h' := hh) (g' := g) (d' := d) (t' := t) (ch := []) un hok bare (λb z => absurd z (by simp)), r, q⟩
end
def Zfv (sp : Sp) (dvs : List V) (E : XK) (t : TA) : TE := λZ H Q => t Z H λvs H1 => sp (vs ++ dvs) H1 Q E
def ZhA (C : Addr) (m : Str) (sp : Sp) (dvs : List V) (E : XK) (ta : TE) (t : TA) : TE := λZ H Q => ta Z H λx H1 => ∃ a dx fs, x = .ref a /\ H1 a = some (.ins C dx fs) /\ fs.lookup m = none /\
 t Z H1 λvs H2 => sp (x :: (vs ++ dvs)) H2 Q E
def Zmr (C : Addr) (sp : Sp) (dvs : List V) (E : XK) (t : TA) : TE := λZ H Q => t Z H λvs H1 => ∀ x dx, H1 x = none -> H1 dx = none -> dx ≠ x ->
 sp (.ref x :: (vs ++ dvs)) (upd (upd H1 dx (.own x)) x (.ins C dx [])) (λv H2 => v = .non /\ Q (.ref x) H2) E
def Binds (K : PySem.W.Frag) (fd : FuncData) (ps : List Str) (ds : List Value) : Prop :=
 ∀ (s : Shared) (us : List Value), K.In s.heap -> (us ++ ds).length = ps.length -> BindsTo s fd ⟨us, []⟩ (ps.zip (us ++ ds))
def Binds.all {K : PySem.W.Frag} {fd : FuncData} {ps : List Str} (h : ∀ us : List Value, us.length = ps.length -> bindArgs fd ⟨us, []⟩ = pure (ps.zip us)) : Binds K fd ps [] := λs us _ hl => by
 rw [Y7] at hl ⊢
 exact .of_eq (h us hl)
def ZcB (CX : CXT) (X : Cx) (E : XK) : Prop := ∀ (pins : List (Addr × Obj)) (Z : St) (H : Hp) (s : Shared) (e : Value) (s' : Shared), Inv X pins Z H s -> CX X.stack H s E e s' -> X.xe e s'
section
variable {X : Cx} {CX : CXT} {k : Nat} {f C : Addr} {fd : FuncData} {ps : List Str} {sp : Sp} {dvs : List V} {ds : List Value} {E : XK} {x m : Str} {p pos apos : Pos} {e o : Expr} {es : List Expr} {ta : TE} {t : TA}
def Zin {pins : List (Addr × Obj)} {Z : St} {H : Hp} {s : Shared} {Q : VK} {us : List Value} {vs : List V} (F : FnOk X.prog X.w X.K X.mg X.base CX k f fd ps sp) (hr : Room k X.A) (hb : Binds X.K fd ps ds) (hd : Vals dvs ds) (hx : ZcB CX X E)
  (I : Inv X pins Z H s) (r : Vals vs us) (h : sp (vs ++ dvs) H Q E) : wpAny (model X.prog X.w) X.A (call (.ref f) us) (EP X pins Z Q) X.xe s := by
 have r2 : Vals (vs ++ dvs) (us ++ ds) := r.append hd
 have hl : (us ++ ds).length = ps.length := by rw [<- r2.length]; exact F.len _ _ _ _ h
 refine Vs (YN (F.run X.A X.stack s H ⟨us, []⟩ (us ++ ds) (vs ++ dvs) Q E hr I.env0 (hb s us I.kIn hl) r2 h) λr s' hq => ?_)
 cases r with
 | error e => exact hx pins Z H s e s' I hq
 | ok fl =>
  cases fl with
  | ret u => exact I.after hq
  | next => exact False.elim hq
  | brk => exact False.elim hq
  | cont => exact False.elim hq
def Zgh (F : FnOk X.prog X.w X.K X.mg X.base CX k f fd ps sp) (hr : Room k X.A) (hg : Gl X x) (hm : X.mg x = some (.ref f)) (hk : keepIn X.K (.ref f) = true) (hb : Binds X.K fd ps ds) (hd : Vals dvs ds) (hx : ZcB CX X E)
  (ha : PA X (e :: es) t) (hdb : (x == ("__debug__" : Str)) = false := by decide) (he : starEach (e :: es) X.env = (false, eval e X.env) :: starEach es X.env := by rfl) (hpl : (backTo pos (starEach es X.env)).any (·.1) = false := by rfl) :
  PE X (.Call (.Name x p) (e :: es) [] pos) (Zfv sp dvs E t) := by
 intro pins s Z H Q I h
 refine Y2 (Zco I hg hm ?_ hdb)
 refine callWith_K (h₀ := X.base) I.ok.mod.kin hk (ZR (ha pos pins s Z H _ I h) λus s1 ⟨vs, H1, I1, r, q⟩ => ⟨I1.kIn, ?_⟩) he hpl
 exact Zin F hr hb hd hx I1 r q
def Zn7 {pl : Sem Bool} (he : PE X o ta) (c : Cls X.K C) (hm : Meth X.K C m f) (F : FnOk X.prog X.w X.K X.mg X.base CX k f fd ps sp) (hr : Room k X.A) (hb : Binds X.K fd ps ds) (hd : Vals dvs ds) (hx : ZcB CX X E) (ha : PA X (e :: es) t)
  (hst : starEach (e :: es) X.env = (false, eval e X.env) :: starEach es X.env := by rfl) (hpl : (backTo pos (starEach es X.env)).any (·.1) = false := by rfl)
  (ht : eval (.Call (.Attribute o m apos) (e :: es) [] pos) X.env = (do
   let ov <- eval o X.env
   standAt apos.atName
   let (f, first) <- holding [ov] (getMethod ov m pl)
   callWith pos f first (backTo pos (starEach (e :: es) X.env)) (backToKw pos (keywordEach [] X.env))) := by rfl) :
  PE X (.Call (.Attribute o m apos) (e :: es) [] pos) (ZhA C m sp dvs E ta t) := by
 intro pins s Z H Q I h
 refine methodCall_KW (pl := pl) (ZR (he pins s Z H _ I h) λu s1 ⟨x, H1, I1, rx, a, dx, fs, ex, ea, l, q⟩ => ?_) ht
 subst ex
 obtain rfl : u = Value.ref a := rx
 refine Zd8 I1 ea c hm l ?_
 refine callWith_K (first := [.ref a]) (h₀ := X.base) I.ok.mod.kin hm.kp (ZR (ha pos pins s1 Z H1 _ I1 q) λus s2 ⟨vs, H2, I2, r, q2⟩ => ⟨I2.kIn, ?_⟩) hst hpl
 exact Zin (us := .ref a :: us) (vs := .ref a :: vs) F hr hb hd hx I2 (.cons rfl r) q2
def Zlz {pl : Sem Bool} (he : PE X o ta) (c : Cls X.K C) (hm : Meth X.K C m f) (F : FnOk X.prog X.w X.K X.mg X.base CX k f fd ps sp) (hr : Room k X.A) (hb : Binds X.K fd ps ds) (hd : Vals dvs ds) (hx : ZcB CX X E)
  (ht : eval (.Call (.Attribute o m apos) [] [] pos) X.env = (do
   let ov <- eval o X.env
   standAt apos.atName
   let (f, first) <- holding [ov] (getMethod ov m pl)
   callWith pos f first (backTo pos (starEach [] X.env)) (backToKw pos (keywordEach [] X.env))) := by rfl) :
  PE X (.Call (.Attribute o m apos) [] [] pos) (ZhA C m sp dvs E ta Zn5) := by
 intro pins s Z H Q I h
 refine methodCall_KW (pl := pl) (ZR (he pins s Z H _ I h) λu s1 ⟨x, H1, I1, rx, a, dx, fs, ex, ea, l, q⟩ => ?_) ht
 subst ex
 obtain rfl : u = Value.ref a := rx
 refine Zd8 I1 ea c hm l ?_
 exact PySem.W.callWith_K0 (first := [.ref a]) I1.kIn hm.kp (Zin (us := [.ref a]) (vs := [.ref a]) F hr hb hd hx I1 (.cons rfl .nil) q)
structure Mk (K : PySem.W.Frag) (C f : Addr) : Prop where
 makes : makesIn K C = true
 init : PySem.W.findIn K (.ref C) "__init__" = some (some (.ref f))
 fn : isFn K (.ref f) = true
 kp : keepIn K (.ref C) = true
def ZlJ {pins : List (Addr × Obj)} {Z : St} {H : Hp} {s : Shared} {Q : VK} {us : List Value} {vs : List V} (M : Mk X.K C f) (F : FnOk X.prog X.w X.K X.mg X.base CX k f fd ps sp) (hr : Room (k + 1) X.A) (hb : Binds X.K fd ps ds) (hd : Vals dvs ds)
  (hx : ZcB CX X E) (I : Inv X pins Z H s) (r : Vals vs us)
  (h : ∀ x dx, H x = none -> H dx = none -> dx ≠ x -> sp (.ref x :: (vs ++ dvs)) (upd (upd H dx (.own x)) x (.ins C dx [])) (λv H2 => v = .non /\ Q (.ref x) H2) E) :
  wpAny (model X.prog X.w) X.A (call (.ref C) us) (EP X pins Z Q) X.xe s := by
 have hq := h (s.heap.objs.size + 1) s.heap.objs.size (I.hok.fresh (Vq _)) (I.hok.fresh (Yd _)) (Yl (V7 _))
 have I2 := Inv.made (C := C) I
 have r2 : Vals (V.ref (s.heap.objs.size + 1) :: (vs ++ dvs)) (Value.ref (s.heap.objs.size + 1) :: (us ++ ds)) := .cons rfl (r.append hd)
 have hl : (Value.ref (s.heap.objs.size + 1) :: us ++ ds).length = ps.length := by
  have e := r2.length
  rw [F.len _ _ _ _ hq] at e
  exact e.symm
 refine Vs (Zk6 (f := f) I.kIn M.makes M.init (V0.mp M.fn) (YN (F.run _ X.stack _ _ ⟨Value.ref (s.heap.objs.size + 1) :: us, []⟩ (Value.ref (s.heap.objs.size + 1) :: (us ++ ds)) _ _ E (hr.make C us [])
  (I2.env0.make C us []) (hb _ (Value.ref (s.heap.objs.size + 1) :: us) I2.kIn hl) r2 hq) λr s' hq' => ?_))
 cases r with
 | error e => exact hx pins Z _ _ e s' I2 hq'
 | ok fl =>
  cases fl with
  | ret u =>
   obtain ⟨v, H', I3, rv, ev, q3⟩ := I2.after hq'
   subst ev
   exact ⟨rv, ⟨V.ref (s.heap.objs.size + 1), H', I3, rfl, q3⟩⟩
  | next => exact False.elim hq'
  | brk => exact False.elim hq'
  | cont => exact False.elim hq'
def ZnV (M : Mk X.K C f) (F : FnOk X.prog X.w X.K X.mg X.base CX k f fd ps sp) (hr : Room (k + 1) X.A) (hg : Gl X x) (hm : X.mg x = some (.ref C)) (hb : Binds X.K fd ps ds) (hd : Vals dvs ds) (hx : ZcB CX X E)
  (ha : PA X (e :: es) t) (hdb : (x == ("__debug__" : Str)) = false := by decide) (he : starEach (e :: es) X.env = (false, eval e X.env) :: starEach es X.env := by rfl) (hpl : (backTo pos (starEach es X.env)).any (·.1) = false := by rfl) :
  PE X (.Call (.Name x p) (e :: es) [] pos) (Zmr C sp dvs E t) := by
 intro pins s Z H Q I h
 refine Y2 (Zco I hg hm ?_ hdb)
 refine callWith_K (h₀ := X.base) I.ok.mod.kin M.kp (ZR (ha pos pins s Z H _ I h) λus s1 ⟨vs, H1, I1, r, q⟩ => ⟨I1.kIn, ?_⟩) he hpl
 exact ZlJ M F hr hb hd hx I1 r q
end
def PK (X : Cx) (kws : List Keyword) (t : TA) : Prop :=
 ∀ (pos : Pos) (pins : List (Addr × Obj)) (s : Shared) (Z : St) (H : Hp) (Q : List V -> Hp -> Prop), Inv X pins Z H s -> t Z H Q -> wpAny (model X.prog X.w) X.A (evalAll ((backToKw pos (keywordEach kws X.env)).map (·.2))) (AP X pins Z Q) X.xe s
section
variable {X : Cx} {CX : CXT} {k : Nat} {f C : Addr} {fd : FuncData} {ps ks : List Str} {sp : Sp} {E : XK} {x m : Str} {p pos apos kpos : Pos} {e o : Expr} {es : List Expr} {kws : List Keyword} {te ta : TE} {t tk : TA} {nm : Option Str}
def Zpw : PK X [] Zn5 := λ_ _ _ _ H Q I h => wpAny_evalAll_nil ⟨[], H, I, .nil, h⟩
def ZiE (ha : PE X e te) (hr : PK X kws t) : PK X (⟨nm, e, kpos⟩ :: kws) (Zh2 te t) := by
 intro pos pins s Z H Q I h
 show wpAny _ _ (evalAll ((do let v <- eval e X.env; standAt pos; pure v) :: (backToKw pos (keywordEach kws X.env)).map (·.2))) _ _ s
 refine wpAny_evalAll_cons (Ya (ZR (ha pins s Z H _ I h) λu s1 ⟨x, H1, I1, r1, q1⟩ => Ya (Yah (Yb ?_))))
 exact ZR (hr pos pins s1 Z H1 _ I1 q1) λus s2 ⟨xs, H2, I2, r2, q2⟩ => ⟨x :: xs, H2, I2, .cons r1 r2, q2⟩
structure KBinds (K : PySem.W.Frag) (fd : FuncData) (ps ks : List Str) (g : List Value -> List Value -> List Value) (gV : List V -> List V -> List V) : Prop where
 to : ∀ (s : Shared) (us ws : List Value), K.In s.heap -> (g us ws).length = ps.length -> BindsTo s fd ⟨us, ks.zip ws⟩ (ps.zip (g us ws))
 rel : ∀ {vs : List V} {us : List Value} {zs : List V} {ws : List Value}, Vals vs us -> Vals zs ws -> Vals (gV vs zs) (g us ws)
variable {g : List Value -> List Value -> List Value} {gV : List V -> List V -> List V}
end
structure FnScope (N P : List Str) (sc : Scope) : Prop where
 kind : sc.kind = .function
 co : sc.isCoroutine = false
 gen : sc.isGenerator = false
 nd : N.Nodup
 pre : N.take P.length = P
 par : ∀ x ∈ P, sc.names.lookup x = some .local \/ sc.names.lookup x = some .cell
 nofree : ∀ y ∈ sc.names, y.2 ≠ .free
def Zfh {kindOf : Str -> Option NameKind} {x : Str} : ∀ {binds : List (Str × Value)} {m : Str -> Option Value}, (∀ v, (x, v) ∉ binds) -> bindL kindOf binds m x = m x
 | [], _, _ => rfl
 | (n, v) :: r, m, h => by
  unfold bindL
  rw [Zfh λw hw => h w (YZ _ hw)]
  split
  ·have : x ≠ n := by rintro rfl; exact h v Vd
   simp [this]
  ·rfl
def Zfw {kindOf : Str -> Option NameKind} {x : Str} : ∀ {binds : List (Str × Value)} {m : Str -> Option Value}, (∀ v, (x, v) ∉ binds) -> bindC kindOf binds m x = m x
 | [], _, _ => rfl
 | (n, v) :: r, m, h => by
  unfold bindC
  rw [Zfw λw hw => h w (YZ _ hw)]
  split
  ·rfl
  ·have : x ≠ n := by rintro rfl; exact h v Vd
   simp [this]
theorem Zfe {kindOf : Str -> Option NameKind} {x : Str} {v : Value} : ∀ {P : List Str} {vs : List Value} {i : Nat} {m : Str -> Option Value}, P.Nodup -> P[i]? = some x -> vs[i]? = some v -> kindOf x = some .local ->
  bindL kindOf (P.zip vs) m x = some v
 | [], _, _, _, _, h, _, _ => by simp at h
 | _ :: _, [], _, _, _, _, h, _ => by simp at h
 | p :: P, w :: vs, 0, m, nd, h1, h2, hk => by
  simp at h1 h2; subst h1; subst h2
  show bindL kindOf ((p, w) :: P.zip vs) m p = _
  unfold bindL
  rw [Zfh λv hv => (Y6.mp nd).1 (VP hv).1, if_pos hk]
  simp
 | p :: P, w :: vs, i + 1, m, nd, h1, h2, hk => by
  show bindL kindOf ((p, w) :: P.zip vs) m x = _
  unfold bindL
  exact Zfe (i := i) (List.nodup_cons.mp nd).2 (by simpa using h1) (by simpa using h2) hk
theorem Ze0 {kindOf : Str -> Option NameKind} {x : Str} {v : Value} : ∀ {P : List Str} {vs : List Value} {i : Nat} {m : Str -> Option Value}, P.Nodup -> P[i]? = some x -> vs[i]? = some v -> kindOf x ≠ some .local ->
  bindC kindOf (P.zip vs) m x = some v
 | [], _, _, _, _, h, _, _ => by simp at h
 | _ :: _, [], _, _, _, _, h, _ => by simp at h
 | p :: P, w :: vs, 0, m, nd, h1, h2, hk => by
  simp at h1 h2; subst h1; subst h2
  show bindC kindOf ((p, w) :: P.zip vs) m p = _
  unfold bindC
  rw [Zfw λv hv => (Y6.mp nd).1 (VP hv).1, if_neg hk]
  simp
 | p :: P, w :: vs, i + 1, m, nd, h1, h2, hk => by
  show bindC kindOf ((p, w) :: P.zip vs) m x = _
  unfold bindC
  exact Ze0 (i := i) (List.nodup_cons.mp nd).2 (by simpa using h1) (by simpa using h2) hk
def Zu (N : List Str) (vs : List V) : St := vs.map some ++ List.replicate (N.length - vs.length) none
def JY (CX : CXT) (P : Program) (w : World) (K : PySem.W.Frag) (mg : Str -> Option Value) (base : Heap) (N : List Str) (qual : Str) (scope : Scope) (f : Addr) (cd : Value) (A : Around) (outer : List Env) (s : Shared) (H : Hp) (E : XK) : Cx where
 prog := P
 w := w
 K := K
 mg := mg
 base := base
 A := A.deeper (envOfC qual scope s.heap.objs.size f cd)
 N := N
 s₀ := s
 H₀ := H
 env := envOfC qual scope s.heap.objs.size f cd
 outer := outer
 stack := envOfC qual scope s.heap.objs.size f cd :: outer
 ex := []
 calm := true
 fn := λ_ => true
 pn := []
 xe := λe s' => wpAny (model P w) (A.deeper (envOfC qual scope s.heap.objs.size f cd)) (leaving (envOfC qual scope s.heap.objs.size f cd) e) (λ_ s'' => CX outer H s E e s'') (λe' s'' => CX outer H s E e' s'') s'
def ZgL {sc : Scope} {n : Nat} {x : Str} (h : sc.names.lookup x = some .cell) : ∃ c, (cellsFrom n sc.names []).lookup x = some c := by
 have q := cellsFrom_some sc.names n [] (.inl h)
 exact Option.isSome_iff_exists.mp q
def ZjM {CX : CXT} {P : Program} {w : World} {K : PySem.W.Frag} {mg : Str -> Option Value} {base : Heap} {N ps : List Str} {qual : Str} {scope : Scope} {f : Addr} {cd : Value} {A : Around} {outer : List Env} {s s1 : Shared} {H : Hp} {E : XK} {us : List Value} {vs : List V}
  (S : FnScope N ps scope) (hd : A.handled = none) (e0 : Env0 P w K mg base A outer s H) (hl : vs.length = ps.length) (r : Vals vs us)
  (x : InCallC s s.heap.objs.size (bindL (envOfC qual scope s.heap.objs.size f cd).kindOf (ps.zip us) λ_ => none) (cellsFrom (s.heap.objs.size + 1) scope.names []) (bindC (envOfC qual scope s.heap.objs.size f cd).kindOf (ps.zip us) λ_ => none) s1) :
  Inv (JY CX P w K mg base N qual scope f cd A outer s H E) [] (Zu N vs) H s1 := by
 have hpl : ps.length <= N.length := by have := congrArg List.length S.pre; rw [Y4] at this; omega
 obtain ⟨h1, tk, rfl, hk⟩ := x.done
 have noA : ∀ b : Addr, b ∉ (JY CX P w K mg base N qual scope f cd A outer s H E).ex := λb z => absurd (show b ∈ ([] : List Addr) from z) (by simp)
 refine ⟨⟨e0.mod, S.kind, rfl, rfl, Yd _, λy z c h1 h2 => ?_, λy hy => ?_, λy c _ h => ?_, λ_ => hd, Around.frames_deeper e0.frames, .inr ⟨rfl, rfl⟩, λb z => absurd z (noA b), e0.bs, e0.bsz, λb _ _ => noA b, λb z => absurd z (noA b), e0.funs, e0.frf⟩,
  rfl, e0.bare, Un.kept hk, ⟨_, x.toInCall.ns, λi y v h1 h2 h3 => ?_⟩, λy c h => ⟨_, x.cell y c h⟩, e0.hok.fresh (Nat.le_refl _), λy c h => ?_, λp hp => absurd (show p ∈ ([] : List (Addr × Obj)) from hp) (by simp), e0.hok.kept hk, ?_⟩
 ·exact name_of_addr x.apart (Vc h1) (Vc h2)
 ·have hy : scope.names.lookup y = some .cell \/ scope.names.lookup y = some .free := hy
  rcases hy with hy | hy
  ·exact ZgL hy
  ·exact absurd rfl (S.nofree _ (Vc hy))
 ·exact Ys (x.above y c (Vc h))
 ·have hi : i < vs.length := by
   unfold Zu at h2
   by_cases hi : i < vs.length
   ·exact hi
   ·rw [List.getElem?_append_right (by simpa using hi)] at h2
    rw [List.getElem?_replicate] at h2
    split at h2 <;> cases h2
  have ha : vs[i]? = some v := by
   unfold Zu at h2
   rw [List.getElem?_append_left (by simpa using hi), List.getElem?_map] at h2
   cases e : vs[i]? with
   | none => rw [e] at h2; cases h2
   | some a => rw [e] at h2; cases h2; rfl
  obtain ⟨u, hu, rv⟩ := r.get ha
  have hp : ps[i]? = some y := by
   rw [<- S.pre, List.getElem?_take_of_lt (by omega)]; exact h1
  have ndP : ps.Nodup := by rw [<- S.pre]; exact S.nd.sublist (Vw _ _)
  refine ⟨u, rv, ?_⟩
  rcases S.par y (Yq hp) with k | k
  ·exact .inl ⟨k, Zfe ndP hp hu k⟩
  ·obtain ⟨c, e⟩ := ZgL (n := s.heap.objs.size + 1) k
   refine .inr ⟨.inl k, c, e, ?_⟩
   have q := x.cell y c e
   rw [Ze0 ndP hp hu (by show scope.names.lookup y ≠ _; rw [k]; decide)] at q
   exact q
 ·exact e0.hok.fresh (Ys (x.above y c (Vc h)))
 ·unfold Zu
  show _ = N.length
  rw [YS, Yg, List.length_replicate]
  omega
def Zlq {CX : CXT} {P : Program} {w : World} {K : PySem.W.Frag} {mg : Str -> Option Value} {base : Heap} {k : Nat} {f : Addr} {name qual : Str} {params : Arguments} {body : List Stmt} {scope : Scope} {dV kV doc pm cdv ct oc : Value} {an od : Option Addr}
  {osl : Array (Option Value)} {N ps : List Str} {sp : Sp} (lk : K.lookup f = some ⟨oc, od, .func (fnOf name qual params body scope dV kV doc pm an cdv ct), osl⟩) (hcd : codeIn K cdv qual = true) (S : FnScope N ps scope)
  (len : ∀ vs H Q E, sp vs H Q E -> vs.length = ps.length)
  (hbody : ∀ (A : Around) (outer : List Env) (s : Shared) (H : Hp) (vs : List V) (Q : VK) (E : XK), Room k (A.deeper (envOfC qual scope s.heap.objs.size f cdv)) -> sp vs H Q E ->
   ∃ t, PSs (JY CX P w K mg base N qual scope f cdv A outer s H E) body t /\ t { nx := λ_ H' => Q .non H', rt := Q } (Zu N vs) H) :
  FnOk P w K mg base CX (k + 1) f (fnOf name qual params body scope dV kV doc pm an cdv ct) ps sp := by
 refine ⟨len, λA outer s H args us vs Q E hr e0 hb r hsp => ?_⟩
 have hl := len _ _ _ _ hsp
 have KX : K.In s.heap := e0.mod.kin.keeps λb o e => (e0.bs b o e).1
 have lim : s.heap.NoLimit := e0.mod.nolimit.keeps λb o e => (e0.bs b o e).1
 have hkind : ∀ y ∈ ps.zip us, scope.names.lookup y.1 = some .local \/ (scope.names.lookup y.1 = some .cell /\ ((cellsFrom (s.heap.objs.size + 1) scope.names []).lookup y.1).isSome = true) := λ⟨n, v⟩ hy => by
  rcases S.par n (VP hy).1 with q | q
  ·exact .inl q
  ·exact .inr ⟨q, cellsFrom_some _ _ _ (.inl q)⟩
 refine codeAny_call_function hr.depth (KX _ _ lk) rfl S.co S.gen rfl (PySem.W.codeRec_of KX hcd) (hb _ _ _ _ ?_)
 refine wpAny_newFunctionEnv_cells S.kind hkind λenv he s1 x => ?_
 subst he
 refine ⟨lim.keeps x.toInCall.keep, codeAny_func ?_⟩
 obtain ⟨t, ht, hq⟩ := hbody A outer s H vs Q E (hr.deeper _) hsp
 have I : Inv (JY CX P w K mg base N qual scope f cdv A outer s H E) [] (Zu N vs) H s1 := ZjM S hr.hd e0 hl r x
 refine Yp (ht [] s1 (Zu N vs) H _ I hq) (λfl s' hs => ?_) λe s' hs => hs
 have fin : ∀ {Z' : St} {H' : Hp} {v : V} {u : Value}, Inv (JY CX P w K mg base N qual scope f cdv A outer s H E) [] Z' H' s' -> RelV v u -> Q v H' -> CE outer P w H s Q u s' :=
  λ{Z' H' v u} J rv q => ⟨v, H', J.os, J.bare, J.base, J.hok, rv, q⟩
 cases fl with
 | ret u =>
  obtain ⟨v, Z', H', J, rv, q⟩ := hs
  exact fin J rv q
 | next =>
  obtain ⟨Z', H', J, q⟩ := hs
  exact fin (v := V.non) (u := Value.none) J rfl q
 | brk =>
  obtain ⟨_, _, _, q⟩ := hs
  exact False.elim q
 | cont =>
  obtain ⟨_, _, _, q⟩ := hs
  exact False.elim q
section
variable {X : Cx} {x : Str} {p pos : Pos} {e : Expr} {es : List Expr} {t : TA} {id T : String} {r : List V -> Hp -> VK -> Prop}
def tCB (r : List V -> Hp -> VK -> Prop) (t : TA) : TE := λZ H Q => t Z H λvs H1 => r vs H1 Q
def ZaO (hc : CallR X (.builtin id) r) (hg : Gl X x) (hm : X.mg x = none) (hv : bootBuiltins x = some (.builtin id)) (ha : PA X (e :: es) t) (hn : x ≠ "__name__" := by decide) (hdb : (x == ("__debug__" : Str)) = false := by decide)
  (he : starEach (e :: es) X.env = (false, eval e X.env) :: starEach es X.env := by rfl) (hpl : (backTo pos (starEach es X.env)).any (·.1) = false := by rfl) : PE X (.Call (.Name x p) (e :: es) [] pos) (tCB r t) := by
 intro pins s Z H Q I h
 refine Y2 (Jp I hg hm hv ?_ hn hdb)
 exact PyProof.Rows.callWith_builtin1 (ZR (ha pos pins s Z H _ I h) λus s1 ⟨vs, H1, I1, r1, q1⟩ => hc pins s1 Z H1 vs us Q I1 r1 q1) he hpl
def Zbo (hc : CallR X (.type T) r) (hg : Gl X x) (hm : X.mg x = none) (hv : bootBuiltins x = some (.type T)) (ha : PA X (e :: es) t) (hn : x ≠ "__name__" := by decide) (hdb : (x == ("__debug__" : Str)) = false := by decide)
  (he : starEach (e :: es) X.env = (false, eval e X.env) :: starEach es X.env := by rfl) (hpl : (backTo pos (starEach es X.env)).any (·.1) = false := by rfl) : PE X (.Call (.Name x p) (e :: es) [] pos) (tCB r t) := by
 intro pins s Z H Q I h
 refine Y2 (Jp I hg hm hv ?_ hn hdb)
 exact Y9 (ZR (ha pos pins s Z H _ I h) λus s1 ⟨vs, H1, I1, r1, q1⟩ => hc pins s1 Z H1 vs us Q I1 r1 q1) he hpl
end
end L2
namespace HT
open PySem PyProof.Rows
section
open PySem.SeqAt
open PySem.AutoSeq1 (wpAny_loadPart')
open PySem.MeetsSeq PySem.MeetsSeq2 PySem.MeetsSeq3
end
section
variable {prog : Program} {w : World} {A : Around} {E : Value -> Shared -> Prop} {s : Shared}
end
end HT
namespace L2
open PySem PySem.Spec PyProof.Rows
abbrev TO := St -> Hp -> (Option Int -> Hp -> Prop) -> Prop
def PO (X : Cx) (e : Option Expr) (t : TO) : Prop :=
 ∀ (pins : List (Addr × Obj)) (s : Shared) (Z : St) (H : Hp) (Q : Option Int -> Hp -> Prop), Inv X pins Z H s -> t Z H Q ->
  wpAny (model X.prog X.w) X.A (evalPart e X.env) (λu s' => ∃ o H', Inv X pins Z H' s' /\ IsPart u o /\ Q o H') X.xe s
def Zet : TO := λ_ H Q => Q none H
def Zln (t : TE) : TO := λZ H Q => t Z H λx H1 => ∃ i, x = .int i /\ Q (some i) H1
section
variable {X : Cx} {e : Expr} {te : TE} {lo hi : Option Expr} {tl th : TO} {pos p2 : Pos}
def Zoq : PO X none Zet := by
 intro pins s Z H Q I h
 rw [evalPart_none]
 exact Yb ⟨none, H, I, .none, h⟩
def Zoy (h : PE X e te) : PO X (some e) (Zln te) := by
 intro pins s Z H Q I hw
 rw [evalPart_some]
 refine ZR (h pins s Z H _ I hw) λu s1 ⟨x, H1, I1, r1, q1⟩ => ?_
 obtain ⟨i, rfl, q⟩ := q1
 obtain ⟨t, rfl⟩ := r1
 exact ⟨some i, H1, I1, .int i t, q⟩
def SlR (X : Cx) (r : V -> Option Int -> Option Int -> Hp -> VK -> Prop) : Prop :=
 ∀ (pins : List (Addr × Obj)) (s : Shared) (Z : St) (H : Hp) (x : V) (v vl vu : Value) (lo hi : Option Int) (sl : Addr) (Q : VK), Inv X pins Z H s -> RelV x v -> s.heap.IsSliceOf sl vl vu .none -> IsPart vl lo -> IsPart vu hi -> r x lo hi H Q ->
  ∃ T id, typeLookup (.type T) "__getitem__" = pure (some (.builtin id)) /\ s.TypeIs v T /\ wpAny (model X.prog X.w) X.A (getItem v (.ref sl)) (EP X pins Z Q) X.xe s
def SlR.or {r r' : V -> Option Int -> Option Int -> Hp -> VK -> Prop} (h : SlR X r) (h' : SlR X r') : SlR X (λx lo hi H Q => r x lo hi H Q \/ r' x lo hi H Q) := by
 intro pins s Z H x v vl vu lo hi sl Q I rx hs pl pu q
 rcases q with q | q
 ·exact h pins s Z H x v vl vu lo hi sl Q I rx hs pl pu q
 ·exact h' pins s Z H x v vl vu lo hi sl Q I rx hs pl pu q
def tSl (r : V -> Option Int -> Option Int -> Hp -> VK -> Prop) (te : TE) (tl th : TO) : TE := λZ H Q => te Z H λx H1 => tl Z H1 λl H2 => th Z H2 λu H3 => r x l u H3 Q
def Zlb {r : V -> Option Int -> Option Int -> Hp -> VK -> Prop} (hr : SlR X r) (he : PE X e te) (hl : PO X lo tl) (hu : PO X hi th) : PE X (.Subscript e (.Slice lo hi none p2) pos) (tSl r te tl th) := by
 intro pins s Z H Q I h
 refine Subscript_ (ZR (he pins s Z H _ I h) λv s1 ⟨x, H1, I1, r1, q1⟩ => ?_)
 refine wpAny_Slice (ZR (hl pins s1 Z H1 _ I1 q1) λvl s2 ⟨l, H2, I2, pl, q2⟩ => ZR (hu pins s2 Z H2 _ I2 q2) λvu s3 ⟨u, H3, I3, pu, q3⟩ => ?_)
 rw [evalPart_none]
 refine Yb ?_
 have I4 : Inv X pins Z H3 { s3 with heap := s3.heap.push { cls := .type "slice", data := .fields #[vl, vu, .none] } } := I3.kept (t' := s3.toks) λb ob q => Yf _ q
 obtain ⟨T, id, hT, ht, hg⟩ := hr pins { s3 with heap := s3.heap.push { cls := .type "slice", data := .fields #[vl, vu, .none] } } Z H3 x v vl vu l u s3.heap.objs.size Q I4 r1 (Heap.IsSliceOf.new ..) pl pu q3
 show wpAny (model X.prog X.w) X.A (subscriptTail e (.Slice lo hi none p2) v (.ref s3.heap.objs.size)) (EP X pins Z Q) X.xe { s3 with heap := s3.heap.push { cls := .type "slice", data := .fields #[vl, vu, .none] } }
 exact tail_any (ops := [.ref s3.heap.objs.size, v]) ht hT hg (by with_unfolding_all rfl)
end
def ixN (n : Nat) (i : Int) : Option Nat := if 0 <= i then (if i < n then some i.toNat else none) else if -(n : Int) <= i then some (i + n).toNat else none
def atI {α : Type} (xs : List α) (i : Int) : Option α := (ixN xs.length i).bind λj => xs[j]?
def ZiD {n : Nat} {i : Int} {j : Nat} (h : ixN n i = some j) : seqIndex? i n = some j /\ j < n /\ -(n : Int) <= i /\ i < n := by
 unfold ixN at h
 by_cases h0 : 0 <= i
 ·rw [if_pos h0] at h
  by_cases h1 : i < n
  ·rw [if_pos h1] at h
   have e : i.toNat = j := YR h
   exact ⟨by rw [seqIndex_of h0 h1, e], by omega, by omega, h1⟩
  ·rw [if_neg h1] at h; cases h
 ·rw [if_neg h0] at h
  by_cases h1 : -(n : Int) <= i
  ·rw [if_pos h1] at h
   have e : (i + n).toNat = j := YR h
   exact ⟨by rw [seqIndex_neg (by omega) h1, e], by omega, h1, by omega⟩
  ·rw [if_neg h1] at h; cases h
def ZfM {α : Type} {xs : List α} {i : Int} {v : α} (h : atI xs i = some v) : ∃ j, seqIndex? i xs.length = some j /\ xs[j]? = some v /\ j < xs.length /\ -(xs.length : Int) <= i /\ i < xs.length := by
 unfold atI at h
 cases e : ixN xs.length i with
 | none => rw [e] at h; cases h
 | some j =>
  rw [e] at h
  obtain ⟨h1, h2, h3, h4⟩ := ZiD e
  exact ⟨j, h1, h, h2, h3, h4⟩
theorem ZP {α : Type} {xs : List α} {j : Nat} {v : α} (h : xs[j]? = some v) : atI xs (j : Int) = some v := by
 have hj : j < xs.length := (Yj.mp h).1
 have e : ixN xs.length (j : Int) = some j := by
  unfold ixN
  rw [if_pos (by omega), if_pos (by omega)]; simp
 unfold atI; rw [e]; exact h
def Zdi (b : Expr) : Prop := ∀ o i, subscripted b false o i = operate [o, i] (getItem o i)
def IxR (X : Cx) (r : R2) : Prop :=
 ∀ (value slice : Expr) (pins : List (Addr × Obj)) (s : Shared) (Z : St) (H : Hp) (x y : V) (v u : Value) (Q : VK), Inv X pins Z H s -> RelV x v -> RelV y u -> r x y H Q ->
  subscripted slice false v u = operate [v, u] (getItem v u) -> wpAny (model X.prog X.w) X.A (subscriptTail value slice v u) (EP X pins Z Q) X.xe s
def MtR (X : Cx) (id : String) (r : V -> List V -> Hp -> VK -> Prop) : Prop :=
 ∀ (pins : List (Addr × Obj)) (s : Shared) (Z : St) (H : Hp) (x : V) (xs : List V) (v : Value) (us : List Value) (Q : VK), Inv X pins Z H s -> RelV x v -> Vals xs us -> r x xs H Q ->
  wpAny (model X.prog X.w) X.A (call (.builtin id) (v :: us)) (EP X pins Z Q) X.xe s
section
variable {X : Cx} {a b : Expr} {ta tb : TE} {pos : Pos}
def IxR.or {r r' : R2} (h : IxR X r) (h' : IxR X r') : IxR X (λx y H Q => r x y H Q \/ r' x y H Q) := by
 intro value slice pins s Z H x y v u Q I rx ry q hs
 rcases q with q | q
 ·exact h value slice pins s Z H x y v u Q I rx ry q hs
 ·exact h' value slice pins s Z H x y v u Q I rx ry q hs
def MtR.or {id : String} {r r' : V -> List V -> Hp -> VK -> Prop} (h : MtR X id r) (h' : MtR X id r') : MtR X id (λx xs H Q => r x xs H Q \/ r' x xs H Q) := by
 intro pins s Z H x xs v us Q I rx rs q
 rcases q with q | q
 ·exact h pins s Z H x xs v us Q I rx rs q
 ·exact h' pins s Z H x xs v us Q I rx rs q
def ZkO {r : R2} (hr : IxR X r) (ha : PE X a ta) (hb : PE X b tb) (hs : Zdi b) : PE X (.Subscript a b pos) (tOp r ta tb) := by
 intro pins s Z H Q I h
 exact Subscript_ (Zrj ha hb I h λv u s2 x y H2 I2 rx ry q => hr a b pins s2 Z H2 x y v u Q I2 rx ry q (hs _ _))
def ZqQ (K : PySem.W.Frag) : R2 := λx y H Q => ∃ p xs i v, x = .ref p /\ y = .int i /\ SqL K H p xs /\ atI xs i = some v /\ Q v H
def Zsh (K : PySem.W.Frag) : R2 := λx y H Q => ∃ p xs i v, x = .ref p /\ y = .int i /\ SqT K H p xs /\ atI xs i = some v /\ Q v H
def ZqG : R2 := λx y H Q => ∃ z i c, x = .str z /\ y = .int i /\ z.length <= sizeLine /\ atI z.cps.toList i = some c /\ Q (.str ⟨#[c]⟩) H
def Zjp : IxR X (ZqQ X.K) := by
 intro value slice pins s Z H x y v u Q I rx ry h hs
 obtain ⟨p, xs, i, z, rfl, rfl, hq, he, q⟩ := h
 cases rx
 obtain ⟨t, rfl⟩ := ry
 obtain ⟨its, r, pl, hz⟩ := I.list hq
 obtain ⟨j, h1, h2, h3, h4, h5⟩ := ZfM he
 obtain ⟨w, ew, rw'⟩ := r.get h2
 have hl := r.length
 have hn := Ze7
 have fin : EP X pins Z Q w s := ⟨z, H, I, rw', q⟩
 by_cases h0 : 0 <= i
 ·have hj : i.toNat = j := by
   rw [seqIndex_of h0 h5] at h1
   exact YR h1
  exact item_listR pl.isList h0 (by omega) (by rw [hj]; simpa using ew) fin hs
 ·have hj : (i + (its.toArray.size : Int)).toNat = j := by
   rw [seqIndex_neg (by omega) h4] at h1
   rw [YM, <- hl]
   exact YR h1
  exact subscriptTail_builtinR (x := w) pl.isList.typeIs slot_list_getitem.lookup
   (wpAny_getItem_list_neg (Q := λr s' => r = w /\ EP X pins Z Q r s') pl.isList (by omega) (by rw [List.size_toArray] <;> omega) (by omega) (by rw [hj]; simpa using ew) ⟨rfl, fin⟩) hs
def Zqx : IxR X (Zsh X.K) := by
 intro value slice pins s Z H x y v u Q I rx ry h hs
 obtain ⟨p, xs, i, z, rfl, rfl, hq, he, q⟩ := h
 cases rx
 obtain ⟨t, rfl⟩ := ry
 obtain ⟨its, r, pl, hz⟩ := I.tuple hq
 obtain ⟨j, h1, h2, h3, h4, h5⟩ := ZfM he
 obtain ⟨w, ew, rw'⟩ := r.get h2
 have hl := r.length
 have hn := Ze7
 have fin : EP X pins Z Q w s := ⟨z, H, I, rw', q⟩
 exact subscriptTail_builtinR (x := w) pl.typeIs slot_tuple_getitem.lookup
  (getItem_tuple (j := j) (Q := λr s' => r = w /\ EP X pins Z Q r s') pl (by omega) (by omega) (by rw [List.size_toArray, <- hl]; exact h1) (by simpa using ew) ⟨rfl, fin⟩) hs
def ZpG : IxR X ZqG := by
 intro value slice pins s Z H x y v u Q I rx ry h hs
 obtain ⟨z, i, c, rfl, rfl, hz, he, q⟩ := h
 obtain ⟨t, rfl⟩ := rx
 obtain ⟨t', rfl⟩ := ry
 obtain ⟨j, h1, h2, h3, h4, h5⟩ := ZfM he
 have hl : z.cps.toList.length = z.length := by simp [Str.length]
 rw [hl] at h1 h4 h5
 have hn := Ze7
 exact tail_any (typeIs_str s z t) slot_str_getitem.lookup (getItem_str (c := c) (by
  have e1 : decide (i < -(2 ^ 63 : Int)) = false := Y5 (by omega)
  have e2 : decide (i >= 2 ^ 63) = false := Y5 (by omega)
  rw [e1, e2, Bool.or_false]) (by rw [h1]; simpa using h2) ⟨.str ⟨#[c]⟩, H, I.tok _, ⟨_, rfl⟩, q⟩) hs
def ZhX (its : List Value) (n j : Nat) (u : Value) : Obj.mapSeq (·.setIfInBounds j u) { cls := .type "list", data := .seq its.toArray n } = { cls := .type "list", data := .seq (its.set j u).toArray n } := by
 simp [Obj.mapSeq]
theorem Inv.lst {pins : List (Addr × Obj)} {Z : St} {H : Hp} {s : Shared} {p : Addr} {xs : List V} (I : Inv X pins Z H s) (h : H p = some (.lst xs)) :
  ∃ (its : List Value) (n : Nat), Vals xs its /\ s.heap.get? p = some { cls := .type "list", data := .seq its.toArray n } /\ xs.length <= sizeLine := by
 obtain ⟨z, its, n, r, e⟩ := I.hok p _ h
 exact ⟨its, n, r, e, z⟩
def Inv.lstUpd {pins : List (Addr × Obj)} {Z : St} {H : Hp} {s : Shared} {p : Addr} {xs ys : List V} {its its' : List Value} {n n' : Nat} {f : Obj -> Obj} (I : Inv X pins Z H s) (h : H p = some (.lst xs))
  (ho : s.heap.get? p = some { cls := .type "list", data := .seq its.toArray n }) (hf : f { cls := .type "list", data := .seq its.toArray n } = { cls := .type "list", data := .seq its'.toArray n' }) (r : Vals ys its') (hz : ys.length <= sizeLine) (t : Nat) :
  Inv X pins Z (upd H p (.lst ys)) { s with heap := s.heap.update p f, toks := t } := by
 have e : (s.heap.update p f).get? p = some { cls := .type "list", data := .seq its'.toArray n' } := by
  rw [Yar f ho (by rw [hf] <;> rfl), hf]
 refine I.write (x := p) (e := p) (by rw [h]; trivial) (.inl rfl) (λb u hb q => (Vm _ _ (Ne.symm hb)).trans q) ⟨_, e⟩ ?_
 exact ⟨hz, its', n', r, e⟩
def Zk1 : V -> V -> V -> Hp -> (Hp -> Prop) -> Prop := λo i v H Q => ∃ p xs k j, o = .ref p /\ i = .int k /\ H p = some (.lst xs) /\ ixN xs.length k = some j /\ Q (upd H p (.lst (xs.set j v)))
def Zme : ZrY X Zk1 := by
 intro pins s Z H o i v ov iv u Q I ro ri rv h
 obtain ⟨p, xs, k, j, rfl, rfl, hp, hj, q⟩ := h
 cases ro
 obtain ⟨t, rfl⟩ := ri
 obtain ⟨its, n, r, ho, hz⟩ := I.lst hp
 obtain ⟨h1, h2, h3, h4⟩ := ZiD hj
 have hl := r.length
 have hn := Ze7
 have I' : Inv X pins Z (upd H p (.lst (xs.set j v))) { s with heap := s.heap.update p (Obj.mapSeq (·.setIfInBounds j u)) } :=
  I.lstUpd hp ho (ZhX its n j u) (r.set rv j) (by rw [List.length_set]; exact hz) s.toks
 by_cases h0 : 0 <= k
 ·have hk : k.toNat = j := by
   rw [seqIndex_of h0 h4] at h1
   exact YR h1
  exact PySem.W.ki_setAt ho h0 (by omega) (by rw [YM, <- hl]; exact h4) (by rw [hk]; exact ⟨_, I', q⟩)
 ·have hk : (k + (its.toArray.size : Int)).toNat = j := by
   rw [seqIndex_neg (by omega) h3] at h1
   rw [YM, <- hl]
   exact YR h1
  exact PySem.W.ki_setBack ho (by omega) (by rw [YM, <- hl]; exact h3) (by omega) (by rw [hk]; exact ⟨_, I', q⟩)
def JL : V -> Bool
 | .non => true
 | .bl _ => true
 | .int _ => true
 | .str _ => true
 | _ => false
def eqV : V -> V -> Bool
 | .non, .non => true
 | .bl a, .bl b => a == b
 | .bl a, .int b => (if a then 1 else 0) == b
 | .int a, .bl b => a == (if b then 1 else 0)
 | .int a, .int b => a == b
 | .str a, .str b => a == b
 | _, _ => false
def ZmM {A : Around} {s : Shared} {y x : V} {u v : Value} (ry : RelV y u) (rx : RelV x v) (fy : JL y = true) (fx : JL x = true) : SeqAt.EqAt A s u v (eqV y x) := by
 cases y with
 | non =>
  cases ry
  cases x with
  | non => cases rx; exact SeqAt.EqAt.same _
  | bl b => cases rx; exact SeqAt.EqAt.none_bool b
  | int b => obtain ⟨t, rfl⟩ := rx; exact SeqAt.EqAt.none_int b t
  | str b => obtain ⟨t, rfl⟩ := rx; exact SeqAt.EqAt.none_str b t
  | _ => exact absurd (show false = true from fx) Yy
 | bl a =>
  cases ry
  cases x with
  | non => cases rx; exact SeqAt.EqAt.bool_none a
  | bl b => cases rx; exact SeqAt.EqAt.bool_bool a b
  | int b => obtain ⟨t, rfl⟩ := rx; exact SeqAt.EqAt.bool_int a b t
  | str b => obtain ⟨t, rfl⟩ := rx; exact SeqAt.EqAt.bool_str a b t
  | _ => exact absurd (show false = true from fx) Yy
 | int a =>
  obtain ⟨t', rfl⟩ := ry
  cases x with
  | non => cases rx; exact SeqAt.EqAt.int_none a t'
  | bl b => cases rx; exact SeqAt.EqAt.int_bool a t' b
  | int b => obtain ⟨t, rfl⟩ := rx; exact SeqAt.EqAt.int_int a t' b t
  | str b => obtain ⟨t, rfl⟩ := rx; exact SeqAt.EqAt.int_str a t' b t
  | _ => exact absurd (show false = true from fx) Yy
 | str a =>
  obtain ⟨t', rfl⟩ := ry
  cases x with
  | non => cases rx; exact SeqAt.EqAt.str_none a t'
  | bl b => cases rx; exact SeqAt.EqAt.str_bool a t' b
  | int b => obtain ⟨t, rfl⟩ := rx; exact SeqAt.EqAt.str_int a t' b t
  | str b => obtain ⟨t, rfl⟩ := rx; exact SeqAt.EqAt.str_str a t' b t
  | _ => exact absurd (show false = true from fx) Yy
 | _ => exact absurd (show false = true from fy) Yy
def eqU (x : V) (u : Value) : Bool := match u with
 | .none => eqV .non x
 | .bool b => eqV (.bl b) x
 | .int i _ => eqV (.int i) x
 | .str z _ => eqV (.str z) x
 | _ => false
def ZmR {x y : V} {u : Value} (r : RelV y u) (f : JL y = true) : eqU x u = eqV y x := by
 cases y with
 | non => cases r; rfl
 | bl b => cases r; rfl
 | int i => obtain ⟨t, rfl⟩ := r; rfl
 | str z => obtain ⟨t, rfl⟩ := r; rfl
 | _ => exact absurd (show false = true from f) Yy
theorem ZdL {x : V} : ∀ {xs : List V} {us : List Value}, Vals xs us -> xs.all JL = true -> us.any (eqU x) = xs.any λy => eqV y x
 | _, _, .nil, _ => rfl
 | y :: xs, u :: us, .cons r t, f => by
  rw [List.all_cons, V9] at f
  rw [VW, VW, ZmR r f.1, ZdL t f.2]
theorem Zb1 {A : Around} {s : Shared} {x : V} {v : Value} (rx : RelV x v) (fx : JL x = true) : ∀ {xs : List V} {us : List Value}, Vals xs us -> xs.all JL = true -> ∀ u ∈ us, SeqAt.EqAt A s u v (eqU x u)
 | _, _, .nil, _ => λu hu => by cases hu
 | y :: xs, u :: us, .cons r t, f => λu' hu => by
  rw [List.all_cons, V9] at f
  rcases Ym.mp hu with rfl | hu
  ·rw [ZmR r f.1]; exact ZmM r rx f.1 fx
  ·exact Zb1 rx fx t f.2 u' hu
def inV (x : V) (xs : List V) : Bool := xs.any λy => eqV y x
def rIn (K : PySem.W.Frag) (neg : Bool) : R2 := λx y H Q => ∃ p xs, y = .ref p /\ (SqL K H p xs \/ SqT K H p xs) /\ JL x = true /\ xs.all JL = true /\ Q (.bl (if neg then !inV x xs else inV x xs)) H
theorem ZiI : OpR X (compareOp .In) (rIn X.K false) := by
 intro pins s Z H x y v u Q I rx ry h
 obtain ⟨p, xs, rfl, hq, fx, fs, q⟩ := h
 cases ry
 rcases hq with hq | hq
 ·obtain ⟨its, r, pl, hz⟩ := I.list hq
  refine SeqAt.in_listAt (eqU x) pl.isList (λw hw => Zb1 rx fx r fs w (by simpa using hw)) ⟨.bl _, H, I, rfl, ?_⟩
  rw [show its.toArray.any (eqU x) = its.any (eqU x) by simp, ZdL r fs]
  exact q
 ·obtain ⟨its, r, pl, hz⟩ := I.tuple hq
  refine SeqAt.in_tupleAt (eqU x) pl (λw hw => Zb1 rx fx r fs w (by simpa using hw)) ⟨.bl _, H, I, rfl, ?_⟩
  rw [show its.toArray.any (eqU x) = its.any (eqU x) by simp, ZdL r fs]
  exact q
theorem ZcC : OpR X (compareOp .NotIn) (rIn X.K true) := by
 intro pins s Z H x y v u Q I rx ry h
 obtain ⟨p, xs, rfl, hq, fx, fs, q⟩ := h
 cases ry
 rcases hq with hq | hq
 ·obtain ⟨its, r, pl, hz⟩ := I.list hq
  refine SeqAt.notIn_listAt (eqU x) pl.isList (λw hw => Zb1 rx fx r fs w (by simpa using hw)) ⟨.bl _, H, I, rfl, ?_⟩
  rw [show its.toArray.any (eqU x) = its.any (eqU x) by simp, ZdL r fs]
  exact q
 ·obtain ⟨its, r, pl, hz⟩ := I.tuple hq
  refine SeqAt.notIn_tupleAt (eqU x) pl (λw hw => Zb1 rx fx r fs w (by simpa using hw)) ⟨.bl _, H, I, rfl, ?_⟩
  rw [show its.toArray.any (eqU x) = its.any (eqU x) by simp, ZdL r fs]
  exact q
def Zcx : CallR X (.builtin "len") (λxs H Q => ∃ p ys, xs = [.ref p] /\ (SqL X.K H p ys \/ SqT X.K H p ys) /\ Q (.int ys.length) H) := by
 intro pins s Z H xs us Q I r h
 obtain ⟨p, ys, rfl, hq, q⟩ := h
 obtain ⟨u, rfl, rx⟩ := Jq r
 cases rx
 have hn := Ze7
 rcases hq with hq | hq
 ·obtain ⟨its, r', pl, hz⟩ := I.list hq
  have hlen := r'.length
  exact Calls.call_len_list pl.isList (by simp only [List.size_toArray] <;> omega) ⟨.int ys.length, H, I.tok _, ⟨s.toks + 1, by rw [List.size_toArray, hlen]⟩, q⟩
 ·obtain ⟨its, r', pl, hz⟩ := I.tuple hq
  have hlen := r'.length
  exact len_tuple pl (by simp only [List.size_toArray] <;> omega) ⟨.int ys.length, H, I.tok _, ⟨s.toks + 1, by rw [List.size_toArray, hlen]⟩, q⟩
def CallR.or {f : Value} {r r' : List V -> Hp -> VK -> Prop} (h : CallR X f r) (h' : CallR X f r') : CallR X f (λxs H Q => r xs H Q \/ r' xs H Q) := by
 intro pins s Z H xs us Q I rs q
 rcases q with q | q
 ·exact h pins s Z H xs us Q I rs q
 ·exact h' pins s Z H xs us Q I rs q
def Zcz : CallR X (.type "list") (λxs H Q => ∃ p ys, xs = [.ref p] /\ (SqL X.K H p ys \/ SqT X.K H p ys) /\ ∀ l, H l = none -> Q (.ref l) (upd H l (.lst ys))) := by
 intro pins s Z H xs us Q I r h
 obtain ⟨p, ys, rfl, hq, q⟩ := h
 obtain ⟨u, rfl, rx⟩ := Jq r
 cases rx
 have fin : ∀ (its : List Value), Vals ys its -> ys.length <= sizeLine -> ∀ (h' : Heap) (c' : Nat), (∀ b o', s.heap.get? b = some o' -> h'.get? b = some o') ->
   h'.get? s.heap.objs.size = some { cls := .type "list", dict := none, data := .seq its.toArray c', slots := #[] } -> EP X pins Z Q (.ref s.heap.objs.size) { s with heap := h' } := λits r' hz h' c' kp e =>
  ⟨.ref s.heap.objs.size, _, I.laid (t' := s.toks) kp (Yd _) (show ObjOk X.prog X.w _ h' _ (.lst ys) from ⟨hz, its, c', r', e⟩), rfl, q _ (I.hok.fresh (Yd _))⟩
 rcases hq with hq | hq
 ·obtain ⟨its, r', pl, hz⟩ := I.list hq
  have hlen := r'.length
  obtain ⟨o, ho, hc, n, hd⟩ := pl.isList
  exact call_list_seq p (.inl rfl) ho hc hd (λh' c' kp e => fin its r' hz h' c' kp e) (by simp only [List.size_toArray] <;> omega)
 ·obtain ⟨its, r', pl, hz⟩ := I.tuple hq
  have hlen := r'.length
  obtain ⟨o, ho, hc, n, hd⟩ := pl
  exact call_list_seq p (.inr rfl) ho hc hd (λh' c' kp e => fin its r' hz h' c' kp e) (by simp only [List.size_toArray] <;> omega)
def tyV (K : PySem.W.Frag) (T : String) (x : V) (H : Hp) : Prop := match x with
 | .str _ => T = "str"
 | .int _ => T = "int"
 | .ref p => (T = "list" /\ ∃ xs, SqL K H p xs) \/ (T = "tuple" /\ ∃ o, K.lookup p = some o /\ o.cls = .type "tuple" /\ o.dict = none) \/
   (T = "dict" /\ ((∃ kvs, H p = some (.dK kvs)) \/ ∃ kvs, H p = some (.dT kvs))) \/ (T = "set" /\ ∃ S n, H p = some (.set S n))
 | _ => False
def ZiH {pins : List (Addr × Obj)} {Z : St} {H : Hp} {s : Shared} {T : String} {x : V} {v : Value} (I : Inv X pins Z H s) (r : RelV x v) (ty : tyV X.K T x H) :
  s.TypeIs v T /\ ∀ a, v = .ref a -> ∃ ob, s.heap.get? a = some ob /\ ob.dict = none := by
 cases x with
 | str z =>
  obtain ⟨t, rfl⟩ := r
  cases (show T = "str" from ty)
  exact ⟨typeIs_str s z t, λ_ e => nomatch e⟩
 | int i =>
  obtain ⟨t, rfl⟩ := r
  cases (show T = "int" from ty)
  exact ⟨typeIs_int s i t, λ_ e => nomatch e⟩
 | ref p =>
  cases r
  rcases ty with ⟨rfl, xs, hq⟩ | ⟨rfl, o, hk, hc, hd⟩ | ⟨rfl, hk⟩ | ⟨rfl, S, n, hk⟩
  ·obtain ⟨its, _, pl, _⟩ := I.list hq
   refine ⟨pl.isList.typeIs, λa e => ?_⟩
   cases e
   obtain ⟨o, n, e, c, hd, _⟩ := pl
   exact ⟨o, e, hd⟩
  ·refine ⟨⟨o, I.kIn p o hk, hc⟩, λa e => ?_⟩
   cases e
   exact ⟨o, I.kIn _ o hk, hd⟩
  ·have z : ∃ o, s.heap.get? p = some o /\ o.ExactDict := by
    rcases hk with ⟨kvs, hk⟩ | ⟨kvs, hk⟩
    ·obtain ⟨_, _, _, _, o, _, _, e, ex, _⟩ := I.hok p _ hk
     exact ⟨o, e, ex⟩
    ·obtain ⟨_, _, _, _, o, _, _, e, ex, _⟩ := I.hok p _ hk
     exact ⟨o, e, ex⟩
   obtain ⟨o, e, ex⟩ := z
   refine ⟨⟨o, e, ex.1⟩, λa e2 => ?_⟩
   cases e2
   exact ⟨o, e, ex.2.1⟩
  ·obtain ⟨o, _, _, _, e, ex, _⟩ := I.hok p _ hk
   refine ⟨⟨o, e, ex.1⟩, λa e2 => ?_⟩
   cases e2
   exact ⟨o, e, ex.2.1⟩
 | _ => exact False.elim ty
def tBM (K : PySem.W.Frag) (T : String) (r : V -> List V -> Hp -> VK -> Prop) (to : TE) (t : TA) : TE := λZ H Q => to Z H λx H1 => tyV K T x H1 /\ t Z H1 λxs H2 => r x xs H2 Q
variable {o e : Expr} {es : List Expr} {to : TE} {t : TA} {name : Str} {apos cpos : Pos} {T id : String} {r : V -> List V -> Hp -> VK -> Prop}
end
def MtM (X : Cx) (id : String) (r : V -> List V -> Hp -> VK -> Prop) : Prop :=
 ∀ (pins : List (Addr × Obj)) (s : Shared) (Z : St) (H : Hp) (x : V) (xs : List V) (v : Value) (us : List Value) (Q : VK), Inv X pins Z H s -> RelV x v -> Vals xs us -> r x xs H Q ->
  wpAny (model X.prog X.w) X.A (call (.builtin id) (v :: us)) (EP X pins Z Q) X.xe s
def Vals.one : ∀ {x : V} {us : List Value}, Vals [x] us -> ∃ u, us = [u] /\ RelV x u
 | _, _, .cons r .nil => ⟨_, rfl, r⟩
theorem Vals.zero : ∀ {us : List Value}, Vals [] us -> us = []
 | _, .nil => rfl
theorem Vals.dropLast {xs : List V} {us : List Value} (h : Vals xs us) : Vals xs.dropLast us.dropLast := by
 induction h with
 | nil => exact .nil
 | cons r t ih =>
  cases t with
  | nil => exact .nil
  | cons q t' => exact .cons r ih
def Vals.eraseIdx : ∀ {xs : List V} {us : List Value} (i : Nat), Vals xs us -> Vals (xs.eraseIdx i) (us.eraseIdx i)
 | _, _, _, .nil => .nil
 | _, _, 0, .cons _ t => t
 | _, _, i + 1, .cons r t => .cons r (Vals.eraseIdx i t)
def Vals.reverse {xs : List V} {us : List Value} (h : Vals xs us) : Vals xs.reverse us.reverse := by
 induction h with
 | nil => exact .nil
 | cons r t ih => rw [List.reverse_cons, List.reverse_cons]; exact Vals.append ih (.cons r .nil)
def Zhw {α : Type} (l : List α) : l.eraseIdx (l.length - 1) = l.dropLast := by
 induction l with
 | nil => rfl
 | cons a r ih =>
  cases r with
  | nil => rfl
  | cons b r =>
   have e : (a :: b :: r).length - 1 = ((b :: r).length - 1) + 1 := by
    have h1 : (a :: b :: r).length = r.length + 2 := rfl
    have h2 : (b :: r).length = r.length + 1 := rfl
    omega
   rw [e, List.eraseIdx_cons_succ, ih]
   all_goals rfl
section
variable {X : Cx} {pins : List (Addr × Obj)} {Z : St} {H : Hp} {s : Shared} {l b : Addr} {xs ys zs : List V}
theorem Inv.lset {its its' : List Value} {n : Nat} {f : Array Value -> Array Value} {t' : Nat} (I : Inv X pins Z H s) (hH : H l = some (.lst xs))
  (e : s.heap.get? l = some { cls := .type "list", data := .seq its.toArray n }) (hf : f its.toArray = its'.toArray) (hv : Vals ys its') (hz : ys.length <= sizeLine) :
  Inv X pins Z (upd H l (.lst ys)) { s with heap := s.heap.update l (Obj.mapSeq f), toks := t' } := by
 have q := PySem.IsL.update e f
 rw [hf] at q
 refine I.write (x := l) (e := l) (by rw [hH]; exact trivial) (.inl rfl) (λb' u hb hu => (Vm s.heap (Obj.mapSeq f) (Ne.symm hb)).trans hu) ⟨_, q⟩ ?_
 exact ⟨hz, its', _, hv, q⟩
def Inv.lnew {its : List Value} {t' : Nat} (I : Inv X pins Z H s) (hv : Vals ys its) (hz : ys.length <= sizeLine) :
  Inv X pins Z (upd H s.heap.objs.size (.lst ys)) { s with heap := s.heap.push { cls := .type "list", data := .seq its.toArray }, toks := t' } :=
 I.laid (λ_ _ q => Yf _ q) (Yd _) ⟨hz, its, 0, hv, Yn _ rfl⟩
theorem Inv.fresh (I : Inv X pins Z H s) : H s.heap.objs.size = none := I.hok.fresh (Yd _)
def Inv.lstM (I : Inv X pins Z H s) (hH : H l = some (.lst xs)) : xs.length <= sizeLine /\ ∃ (its : List Value) (n : Nat), Vals xs its /\ xs.length = its.length /\ s.heap.get? l = some { cls := .type "list", data := .seq its.toArray n } := by
 obtain ⟨z, its, n, r, e⟩ := I.hok l _ hH
 exact ⟨z, its, n, r, r.length, e⟩
def ZlL {n : Nat} (h : n <= sizeLine) : Builtin.List.listTooLong n = false := by
 unfold Builtin.List.listTooLong
 exact Y5 (by omega)
end
section
variable {X : Cx}
def ZfO : V -> List V -> Hp -> VK -> Prop := λx vs H Q => ∃ l xs y, x = .ref l /\ vs = [y] /\ H l = some (.lst xs) /\ xs.length < sizeLine /\ Q .non (upd H l (.lst (xs ++ [y])))
def Zfi : MtM X "list.append" ZfO := by
 intro pins s Z H x vs v us Q I rx rv h
 obtain ⟨l, xs, y, rfl, rfl, hH, hz, q⟩ := h
 cases rx
 obtain ⟨u, rfl, ru⟩ := rv.one
 obtain ⟨z, its, n, r, hl, e⟩ := I.lstM hH
 refine call_meets F.slot_list_append ⟨_, e, rfl⟩ F.entry_list_append (F.args_list_append_2 _ _) (PySem.list_append l its.toArray n u (by rw [YM]; omega)) ⟨e, ?_⟩
 refine ⟨.non, _, I.lset (its' := its ++ [u]) hH e (by simp) (r.append (.cons ru .nil)) ?_, rfl, q⟩
 rw [YS, List.length_singleton]
 omega
def Zec : V -> List V -> Hp -> VK -> Prop := λx vs H Q => ∃ l b xs zs, x = .ref l /\ vs = [.ref b] /\ H l = some (.lst xs) /\ H b = some (.lst zs) /\ xs.length + zs.length <= sizeLine /\ Q .non (upd H l (.lst (xs ++ zs)))
def Zkq : MtM X "list.extend" Zec := by
 intro pins s Z H x vs v us Q I rx rv h
 obtain ⟨l, b, xs, zs, rfl, rfl, hH, hB, hz, q⟩ := h
 cases rx
 obtain ⟨u, rfl, ru⟩ := rv.one
 cases ru
 obtain ⟨z, its, n, r, hl, e⟩ := I.lstM hH
 obtain ⟨z2, its2, n2, r2, hl2, e2⟩ := I.lstM hB
 have hsz : its.toArray.size + its2.toArray.size <= sizeLine := by rw [YM, YM]; omega
 have hlong : ¬ (!its.toArray.isEmpty && Builtin.List.listTooLong (its.toArray.size + its2.toArray.size)) = true := by
  rw [ZlL hsz, Bool.and_false]
  exact Yy
 refine call_meets F.slot_list_extend ⟨_, e, rfl⟩ F.entry_list_extend (F.args_list_extend_2 _ _)
  (AutoSeq1.list_extend_list_list_0 l its.toArray n b its2.toArray n2 hlong (by rw [YM]; omega) (by omega)) ⟨e, e2, ?_⟩
 refine ⟨.non, _, I.lset (its' := its ++ its2) hH e (by simp) (r.append r2) ?_, rfl, q⟩
 rw [YS]
 omega
def ZqA : V -> List V -> Hp -> VK -> Prop := λx vs H Q => ∃ l xs y, x = .ref l /\ vs = [] /\ H l = some (.lst xs) /\ xs[xs.length - 1]? = some y /\ Q y (upd H l (.lst xs.dropLast))
def Zpt : MtM X "list.pop" ZqA := by
 intro pins s Z H x vs v us Q I rx rv h
 obtain ⟨l, xs, y, rfl, rfl, hH, hy, q⟩ := h
 cases rx
 have hus := rv.zero
 subst hus
 obtain ⟨z, its, n, r, hl, e⟩ := I.lstM hH
 obtain ⟨u, hu, ru⟩ := r.get hy
 have hy' : its.toArray[its.toArray.size - 1]? = some u := by
  show its.toArray[its.length - 1]? = some u
  rw [<- YH, <- hl]
  exact hu
 refine call_meets F.slot_list_pop ⟨_, e, rfl⟩ F.entry_list_pop (F.args_list_pop_1 _) (MeetsSeq.list_pop_last l its.toArray n u hy' (by rw [YM]; omega)) ⟨e, ?_⟩
 refine ⟨y, _, I.lset (its' := its.dropLast) hH e ?_ r.dropLast ?_, ru, q⟩
 ·show its.toArray.eraseIdxIfInBounds (its.toArray.size - 1) = its.dropLast.toArray
  rw [YM, List.eraseIdxIfInBounds_toArray, Zhw]
 ·rw [List.length_dropLast]
  omega
def Zhd : V -> List V -> Hp -> VK -> Prop := λx vs H Q => ∃ l xs, x = .ref l /\ vs = [] /\ H l = some (.lst xs) /\ Q .non (upd H l (.lst xs.reverse))
def Zmu : V -> List V -> Hp -> VK -> Prop := λx vs H Q => ∃ l xs, x = .ref l /\ vs = [] /\ H l = some (.lst xs) /\ Q .non (upd H l (.lst []))
def ZqU : R2 := λx y H Q => ∃ l b xs zs, x = .ref l /\ y = .ref b /\ H l = some (.lst xs) /\ H b = some (.lst zs) /\ xs.length + zs.length <= sizeLine /\ ∀ p, H p = none -> Q (.ref p) (upd H p (.lst (xs ++ zs)))
def Zqi : OpR X (binaryOp .Add) ZqU := by
 intro pins s Z H x y v u Q I rx ry h
 obtain ⟨l, b, xs, zs, rfl, rfl, hH, hB, hz, q⟩ := h
 cases rx
 cases ry
 obtain ⟨z, its, n, r, hl, e⟩ := I.lstM hH
 obtain ⟨z2, its2, n2, r2, hl2, e2⟩ := I.lstM hB
 refine PySem.P.add_list e e2 ?_ (by rw [YM, YM]; omega)
 have ea : its.toArray ++ its2.toArray = (its ++ its2).toArray := by simp
 rw [ea]
 exact ⟨.ref _, _, I.lnew (t' := s.toks) (r.append r2) (by rw [YS]; omega), rfl, q _ I.fresh⟩
end
section
variable {prog : Program} {w : World} {A : Around} {E : Value -> Shared -> Prop} {s : Shared}
end
section
variable {X : Cx}
end
end L2
namespace Att
open PySem PySem.W PySem.Calls PyProof.Rows
def Zdo {P : Params} {h : Heap} : ∀ (ns : List Int) (vs : List Value), WellAll P h vs (ns.map WData.int) -> IntsAre vs ns := by
 intro ns
 induction ns with
 | nil =>
  intro vs w
  rw [List.map_nil] at w
  cases w
  exact .nil
 | cons n ns ih =>
  intro vs w
  rw [Yr] at w
  cases w with
  | cons a b =>
   cases a
   exact .cons _ _ (ih _ b)
def Ziv {l : OpenLaw} {n : Nat} (hn : l.most = some n) {P : Params} {h : Heap} {args : List WData} {vals : List Value}
  (hpre : l.row.toRowW.claim.pre args = true) (hwl : WellAll P h vals args) :
  ∃ a vs ns, vals = [Value.ref a] /\ args = [WData.list (ns.map WData.int)] /\ h.get? a = some { cls := .type "list", data := .seq vs.toArray } /\ IntsAre vs ns /\ ns.length <= n := by
 have hsh : WShape.hasAll [] args [.list .int] = true := (pre_splitW hpre).1
 have hc : l.pre.holds [] { args := args } = true := (pre_splitW hpre).2
 obtain ⟨d, r, rfl, h1, h2⟩ := hasAllW_cons hsh
 obtain rfl := hasAllW_nil h2
 obtain ⟨xs, rfl, h3⟩ := hasW_list h1
 obtain ⟨ns, rfl⟩ := items_int h3
 have hlen : ns.length <= n := by
  unfold OpenLaw.pre at hc
  have h4 : (WTm.not (.lt (.lit (.int (n : Int))) (.len (.arg 0)))).holds [] { args := [.list (ns.map .int)] } = true := by
   have h4 := (holds_andW hc).1
   rw [hn] at h4
   exact h4
  have h5 := condW_of h4 (w_not (w_lt w_lit (w_len_list (w_arg rfl))))
  rw [Yg] at h5
  refine Nat.le_of_not_lt λq => ?_
  have q' : (n : Int) < ((ns.length : Nat) : Int) := by omega
  first
   | (rw [Y8 q'] at h5; exact absurd h5 (by decide))
   | (simp at h5; omega)
 cases hwl with
 | cons w1 w2 =>
  cases w2
  cases w1 with
  | list ho hall => exact ⟨_, _, ns, rfl, rfl, ho, Zdo ns _ hall, hlen⟩
def Zio (l : OpenLaw) (args : List WData) : l.row.toRowW.claim.post args (.bool true) args = true :=
 postW_of (r := l.row.toRowW) (X := (true == true))
  (show WShape.has [] (.bool true) .bool = true by first | rfl | decide | simp [WShape.has, WShape.arms, WShape.armsAll])
  (show (WTm.eq .res (.lit (.bool true))).value [] { args := args, res := some (.bool true), after := args } = some (.bool (true == true)) from w_eq_bool (w_res rfl) w_lit) rfl
def attach_call {l : OpenLaw} {n : Nat} {q : Program} {loose : List Str} {XP : (Str -> Option Value) -> Heap -> Prop} {YP : World -> Heap -> Prop} {d : DefRec}
  (hn : l.most = some n) (hdf : d.params.defaults = [])
  (call : ∀ (w : World) (s₀ s₁ : Shared) (mg mb : Str -> Option Value) (fa : Addr) (o : Obj) (pm cd doc : Value) (a : Addr) (vs : List Value) (ns : List Int),
   Ground q loose [] XP w s₀ mg mb s₁.heap -> YP w s₁.heap ->
   s₁.heap.get? fa = some o -> o.data = .func (docDef d.name d.params d.body d.scope pm cd doc) -> s₁.heap.CodeRec cd d.name -> mg d.name = some (.ref fa) ->
   s₁.heap.get? a = some { cls := .type "list", data := .seq vs.toArray } -> IntsAre vs ns -> ns.length <= n -> s₁.gens = #[] ->
   codeAny (model l.prog w) callerA (.call (.ref fa) ⟨[.ref a], []⟩) (λr s' => r = .ok (.ret (.bool true)) /\ OldK s₁.heap s'.heap /\ s'.os = s₁.os /\ AllBare s'.gens) s₁) :
  WalkO q loose XP YP l.row.toRowW d [] (λf vs => PySem.call f vs) := by
 intro w s₀ s₁ mg mb G Y fa o pm cd doc dV kV ho hd hcd hD hmg hg args vals as hpre hlay hrd hwl hlo
 obtain rfl : dV = .none := Dflts.none hD hdf
 obtain rfl : kV = .none := Dflts.noKw hD
 obtain ⟨a, vs, ns, rfl, rfl, hobj, hints, hlen⟩ := Ziv hn hpre hwl
 refine enter_call (YN (call w s₀ s₁ mg mb fa o pm cd doc a vs ns G Y ho (fd_plain hd) hcd hmg hobj hints hlen hg) λr s' hq => ?_)
 obtain ⟨rfl, h2, h3, h4⟩ := hq
 exact ⟨.inl ⟨.bool true, .bool true, [], rfl, λ_ => rfl, .bool true, Zio l _, λ_ => ⟨List.Pairwise.nil, λ_ hm => (nomatch hm)⟩⟩, h2, h3, h4⟩
section
variable {prog : Program} {w : World} {A : Around} {E : Value -> Shared -> Prop} {s : Shared} {K : Frag}
def noObjs (h : Heap) : Heap := { h with objs := #[] }
theorem noObjs_get (h : Heap) (b : Addr) : (noObjs h).get? b = none := by
 cases e : (noObjs h).get? b with
 | none => rfl
 | some o => exact absurd (Ye e) (Yaa _)
def fr_all {h : Heap} {L : Addr} {m : Str -> Option Value} (n : h.Ns L m) : Fr (noObjs h) L h m :=
 ⟨n, λb o e => (by rw [noObjs_get] at e; cases e), YA _⟩
end
end Att
namespace L2
open PySem PySem.Spec PyProof.Rows
def Zbr : ∀ {vs : List Value} {ns : List Int}, IntsAre vs ns -> Vals (ns.map V.int) vs
 | _, _, .nil => .nil
 | _, _, .cons n t h => .cons ⟨t, rfl⟩ (Zbr h)
def ZbN (s : Stmt) (j : Nat) : Stmt := match s with
 | .ClassDef _ _ _ body _ _ _ _ _ _ _ => body.getD j (.Pass ⟨0, 0, 0, 0⟩)
 | _ => .Pass ⟨0, 0, 0, 0⟩
def Zt (s : Stmt) : Arguments := match s with
 | .FunctionDef _ a _ _ _ _ _ _ _ _ => a
 | _ => { posonlyargs := [], args := [], vararg := none, kwonlyargs := [], kw_defaults := [], kwarg := none, defaults := [] }
def Zq (s : Stmt) : List Stmt := match s with
 | .FunctionDef _ _ b _ _ _ _ _ _ _ => b
 | _ => []
def Zb (s : Stmt) : Scope := match s with
 | .FunctionDef _ _ _ _ _ _ sc _ _ _ => sc
 | _ => { kind := .function, names := [], isGenerator := false, isCoroutine := false }
abbrev Zx : CXT := λ_ _ _ _ _ _ => False
abbrev E0 : XK := λ_ _ _ => False
def Zi8 {X : Cx} : ZcB Zx X E0 := λ_ _ _ _ _ _ _ h => h.elim
structure Fun (K : PySem.W.Frag) (x qual : Str) (st : Stmt) (f : Addr) (fd : FuncData) : Prop where
 ex : ∃ (oc : Value) (od : Option Addr) (kV doc pm : Value) (an : Option Addr) (cdv ct : Value) (osl : Array (Option Value)),
  fd = fnOf x qual (Zt st) (Zq st) (Zb st) .none kV doc pm an cdv ct /\ K.lookup f = some ⟨oc, od, .func fd, osl⟩ /\ codeIn K cdv qual = true
 kp : keepIn K (.ref f) = true
section
variable {P : Program} {w : World} {K : PySem.W.Frag} {mg : Str -> Option Value} {base : Heap}
theorem Fun.ok {x qual : Str} {st : Stmt} {f : Addr} {fd : FuncData} {N ps : List Str} {k : Nat} {sp : Sp} (F : Fun K x qual st f fd) (S : FnScope N ps (Zb st)) (len : ∀ vs H Q E, sp vs H Q E -> vs.length = ps.length)
  (hbody : ∀ (cdv : Value) (A : Around) (outer : List Env) (s : Shared) (H : Hp) (vs : List V) (Q : VK) (E : XK), Room k (A.deeper (envOfC qual (Zb st) s.heap.objs.size f cdv)) -> sp vs H Q E ->
   ∃ t, PSs (JY Zx P w K mg base N qual (Zb st) f cdv A outer s H E).nox (Zq st) t /\ t { nx := λ_ H' => Q .non H', rt := Q } (Zu N vs) H) : FnOk P w K mg base Zx (k + 1) f fd ps sp := by
 obtain ⟨oc, od, kV, doc, pm, an, cdv, ct, osl, rfl, lk, hcd⟩ := F.ex
 refine Zlq lk hcd S len λA outer s H vs Q E hr hsp => ?_
 obtain ⟨t, h, q⟩ := hbody cdv A outer s H vs Q E hr hsp
 exact ⟨t, h.nox, q⟩
def Fun.binds {x qual : Str} {st : Stmt} {f : Addr} {fd : FuncData} {ps : List Str} (F : Fun K x qual st f fd)
  (h : ∀ (kV doc pm : Value) (an : Option Addr) (cdv ct : Value) (us : List Value), us.length = ps.length -> bindArgs (fnOf x qual (Zt st) (Zq st) (Zb st) .none kV doc pm an cdv ct) ⟨us, []⟩ = pure (ps.zip us)) : Binds K fd ps [] := by
 obtain ⟨oc, od, kV, doc, pm, an, cdv, ct, osl, rfl, lk, hcd⟩ := F.ex
 exact .all (h kV doc pm an cdv ct)
def ZbH {x qual : Str} {st : Stmt} {f : Addr} {oc : Value} {od an : Option Addr} {osl : Array (Option Value)} {kV doc pm cdv ct : Value} (l : K.lookup f = some ⟨oc, od, .func (fnOf x qual (Zt st) (Zq st) (Zb st) .none kV doc pm an cdv ct), osl⟩)
  (c : codeIn K cdv qual = true) (k : keepIn K (.ref f) = true) : Fun K x qual st f (fnOf x qual (Zt st) (Zq st) (Zb st) .none kV doc pm an cdv ct) := ⟨⟨oc, od, kV, doc, pm, an, cdv, ct, osl, rfl, l, c⟩, k⟩
end
def Jm {A : Around} {k : Nat} (hr : Room k A) : A.units + 1 < cLine := Yz (Nat.add_le_add_left (by decide : 1 <= 64) _) hr.units
def Zfd {n : Nat} (h : n <= 1000) : n < sizeLine := Yz h (by decide)
section
variable {X : Cx}
def pv (i : Nat) {x : Str} {pos : Pos} (hN : X.N[i]? = some x := by rfl) (hv : Vis X.env.scope x := by first | exact Or.inl rfl | exact Or.inr (Or.inl rfl) | exact Or.inr (Or.inr rfl)) (hd : (x == ("__debug__" : Str)) = false := by decide)
  (hcd : (x == ("__classdict__" : Str)) = false := by decide) : PE X (.Name x pos) (Zoa i) := ZmJ hN hv hd hcd
end
theorem JQ {c A B : Prop} [Decidable c] (h1 : c -> A) (h2 : ¬ c -> B) : if c then A else B := by
 by_cases h : c
 ·rw [if_pos h]
  exact h1 h
 ·rw [if_neg h]
  exact h2 h
def Same (H H' : Hp) : Prop := ∀ b o, H b = some o -> H' b = some o
theorem Same.refl (H : Hp) : Same H H := λ_ _ h => h
theorem Same.trans {H H1 H2 : Hp} (a : Same H H1) (b : Same H1 H2) : Same H H2 := λc o h => b c o (a c o h)
theorem Same.free {H H' : Hp} (e : Same H H') {l : Addr} (h : H' l = Option.none) : H l = Option.none := by
 cases q : H l with
 | none => rfl
 | some o =>
  rw [e l o q] at h
  cases h
def Same.seq {K : PySem.W.Frag} {H H' : Hp} {a : Addr} {xs : List V} (e : Same H H') (h : SqL K H a xs) : SqL K H' a xs := by
 rcases h with (h | ⟨o, h⟩) | h
 ·exact .inl (.inl (e _ _ h))
 ·exact .inl (.inr ⟨o, e _ _ h⟩)
 ·exact .inr h
section
variable {κ : Type} [DecidableEq κ]
def Jw (kvs : List (κ × V)) (k : κ) : Option V := (kvs.find? λkv => decide (kv.1 = k)).map (·.2)
def Jf (kvs : List (κ × V)) (k : κ) (v : V) : List (κ × V) :=
 if (kvs.any λkv => decide (kv.1 = k)) = true then kvs.map (λkv => if kv.1 = k then (kv.1, v) else kv) else kvs ++ [(k, v)]
def JU (kvs : List (κ × V)) (k : κ) : List (κ × V) := kvs.filter λkv => decide (kv.1 ≠ k)
theorem ZcI {p : κ × V} {r : List (κ × V)} {k : κ} (e : p.1 = k) : Jw (p :: r) k = some p.2 := by simp [Jw, List.find?_cons, e]
theorem ZcO {p : κ × V} {r : List (κ × V)} {k : κ} (e : ¬ p.1 = k) : Jw (p :: r) k = Jw r k := by simp [Jw, List.find?_cons, e]
def ZgG (k : κ) : ∀ kvs : List (κ × V), (kvs.any λkv => decide (kv.1 = k)) = (Jw kvs k).isSome
 | [] => rfl
 | p :: r => by
  rw [VW]
  by_cases e : p.1 = k
  ·simp only [ZcI e, decide_eq_true e, Bool.true_or, Option.isSome_some]
  ·rw [ZcO e, Y5 e, Bool.false_or]; exact ZgG k r
def ZbQ (kvs : List (κ × V)) (k : κ) (v : V) : (Jf kvs k v).length <= kvs.length + 1 := by
 unfold Jf
 split
 ·rw [Yg]; omega
 ·rw [YS, YQ, List.length_nil]; omega
def RelO.isSome_eq {o : Option V} {u : Option Value} (r : RelO o u) : o.isSome = u.isSome := by
 cases o with
 | none => cases u with
  | none => rfl
  | some _ => exact (show False from r).elim
 | some _ => cases u with
  | none => exact (show False from r).elim
  | some _ => rfl
theorem RelO.getD {o : Option V} {u : Option Value} {d : V} {d' : Value} (r : RelO o u) (rd : RelV d d') : RelV (o.getD d) (u.getD d') := by
 cases o with
 | none => cases u with
  | none => exact rd
  | some _ => exact (show False from r).elim
 | some _ => cases u with
  | none => exact (show False from r).elim
  | some _ => exact r
def KV.val {kvs : List (κ × V)} {vs : List (κ × Value)} (r : KV kvs vs) (k : κ) : RelO (Jw kvs k) (valueAt vs k) := by
 unfold KV at r
 induction r with
 | nil => exact True.intro
 | @cons p q ps qs h t ih =>
  obtain ⟨h1, h2⟩ := h
  by_cases e : p.1 = k
  ·have e' : q.1 = k := h1.symm.trans e
   have b : valueAt (q :: qs) k = some q.2 := by simp [valueAt, List.find?_cons, e']
   rw [ZcI e, b]; exact h2
  ·have e' : ¬ q.1 = k := λz => e (h1.trans z)
   have b : valueAt (q :: qs) k = valueAt qs k := by simp [valueAt, List.find?_cons, e']
   rw [ZcO e, b]; exact ih
theorem KV.any {kvs : List (κ × V)} {vs : List (κ × Value)} (r : KV kvs vs) (k : κ) : (kvs.any λkv => decide (kv.1 = k)) = vs.any λkv => decide (kv.1 = k) := by
 unfold KV at r
 induction r with
 | nil => rfl
 | cons h t ih => rw [VW, VW, ih, h.1]
def KV.repl {kvs : List (κ × V)} {vs : List (κ × Value)} (r : KV kvs vs) (k : κ) {y : V} {u : Value} (ry : RelV y u) :
  KV (kvs.map λkv => if kv.1 = k then (kv.1, y) else kv) (vs.map λkv => if kv.1 = k then (kv.1, u) else kv) := by
 unfold KV at r ⊢
 induction r with
 | nil => exact .nil
 | @cons p q ps qs h t ih =>
  rw [Yr, Yr]
  refine .cons ?_ ih
  obtain ⟨h1, h2⟩ := h
  by_cases e : p.1 = k
  ·rw [if_pos e, if_pos (h1.symm.trans e)]; exact ⟨h1, ry⟩
  ·rw [if_neg e, if_neg (λz => e (h1.trans z))]; exact ⟨h1, h2⟩
def KV.put {kvs : List (κ × V)} {vs : List (κ × Value)} (r : KV kvs vs) (k : κ) {y : V} {u : Value} (ry : RelV y u) : KV (Jf kvs k y) (stored vs k u) := by
 unfold Jf stored
 rw [r.any k]
 by_cases e : (vs.any λkv => decide (kv.1 = k)) = true
 ·rw [if_pos e, if_pos e]; exact r.repl k ry
 ·rw [if_neg e, if_neg e]; exact Paired.snoc r ⟨rfl, ry⟩
theorem KV.drop {kvs : List (κ × V)} {vs : List (κ × Value)} (r : KV kvs vs) (k : κ) : KV (JU kvs k) (without vs k) := by
 unfold KV at r ⊢
 unfold JU without
 induction r with
 | nil => exact .nil
 | @cons p q ps qs h t ih =>
  obtain ⟨h1, h2⟩ := h
  rw [List.filter_cons, List.filter_cons]
  by_cases e : p.1 = k
  ·have a : ¬ decide (p.1 ≠ k) = true := by simp [e]
   have b : ¬ decide (q.1 ≠ k) = true := by simp [h1.symm.trans e]
   rw [if_neg a, if_neg b]; exact ih
  ·have e' : ¬ q.1 = k := λz => e (h1.trans z)
   have a : decide (p.1 ≠ k) = true := by simp [e]
   have b : decide (q.1 ≠ k) = true := by simp [e']
   rw [if_pos a, if_pos b]; exact .cons ⟨h1, h2⟩ ih
theorem KV.keys {kvs : List (κ × V)} {vs : List (κ × Value)} (r : KV kvs vs) : kvs.map (·.1) = vs.map (·.1) := by
 unfold KV at r
 induction r with
 | nil => rfl
 | cons h t ih => rw [Yr, Yr, ih, h.1]
theorem KV.length {kvs : List (κ × V)} {vs : List (κ × Value)} (r : KV kvs vs) : kvs.length = vs.length := Paired.length r
def Zl9 (kvs : List (κ × V)) (k : κ) : (JU kvs k).length <= kvs.length := YK _ _
end
def ZlG {P : Program} {w : World} {k : ZC} {u : Value} (r : RelV (kV k) u) : (ZO P w).is k u = true := by
 cases k with
 | inl i => obtain ⟨t, e⟩ := (show ∃ t, u = Value.int i t from r); subst e; exact ZfL P w i t
 | inr x => obtain ⟨t, e⟩ := (show ∃ t, u = Value.str x t from r); subst e; exact Zgn P w x t
theorem Zfs {P : Program} {w : World} : ∀ {ks : List ZC} {us : List Value}, Vals (ks.map kV) us -> ItemsAre (ZO P w) ks us
 | [], _, r => by rw [List.map_nil] at r; cases r; exact .nil
 | k :: ks, _, r => by
  rw [Yr] at r
  cases r with
  | cons h t => exact .cons (ZlG h) (Zfs t)
abbrev KT (H : Hp) : List (List ZC × V) -> List (List ZC × Addr × Value) -> Prop := Paired λp q => p.1 = q.1 /\ H q.2.1 = some (.tup (p.1.map kV)) /\ RelV p.2 q.2.2
def KT.val {H : Hp} {kvs : List (List ZC × V)} {xs : List (List ZC × Addr × Value)} (r : KT H kvs xs) (k : List ZC) : RelO (Jw kvs k) ((atKey xs k).map (·.2)) := by
 induction r with
 | nil => exact True.intro
 | @cons p q ps qs h t ih =>
  obtain ⟨h1, _, h2⟩ := h
  by_cases e : p.1 = k
  ·have e' : q.1 = k := h1.symm.trans e
   have b : atKey (q :: qs) k = some q.2 := by simp [atKey, List.find?_cons, e']
   rw [ZcI e, b]; exact h2
  ·have e' : ¬ q.1 = k := λz => e (h1.trans z)
   have b : atKey (q :: qs) k = atKey qs k := by simp [atKey, List.find?_cons, e']
   rw [ZcO e, b]; exact ih
def KT.repl {H : Hp} {kvs : List (List ZC × V)} {xs : List (List ZC × Addr × Value)} (r : KT H kvs xs) (k : List ZC) {y : V} {u : Value} (ry : RelV y u) :
  KT H (kvs.map λkv => if kv.1 = k then (kv.1, y) else kv) (xs.map (putAt k u)) := by
 induction r with
 | nil => exact .nil
 | @cons p q ps qs h t ih =>
  rw [Yr, Yr]
  refine .cons ?_ ih
  obtain ⟨h1, h2, h3⟩ := h
  unfold putAt
  by_cases e : p.1 = k
  ·rw [if_pos e, if_pos (h1.symm.trans e)]; exact ⟨h1, h2, ry⟩
  ·rw [if_neg e, if_neg (λz => e (h1.trans z))]; exact ⟨h1, h2, h3⟩
def KT.put {H : Hp} {kvs : List (List ZC × V)} {xs : List (List ZC × Addr × Value)} (r : KT H kvs xs) (k : List ZC) {b : Addr} {y : V} {u : Value} (hb : H b = some (.tup (k.map kV))) (ry : RelV y u) :
  KT H (Jf kvs k y) (storedH xs k b u) := by
 have e : (kvs.any λkv => decide (kv.1 = k)) = (atKey xs k).isSome := by
  rw [ZgG, (r.val k).isSome_eq, Option.isSome_map]
 unfold Jf storedH
 rw [e]
 by_cases q : (atKey xs k).isSome = true
 ·rw [if_pos q, if_pos q]; exact r.repl k ry
 ·rw [if_neg q, if_neg q]; exact Paired.snoc r ⟨rfl, hb, ry⟩
def KT.keeps {H H' : Hp} {kvs : List (List ZC × V)} {xs : List (List ZC × Addr × Value)} (r : KT H kvs xs) (ht : ∀ b ys, H b = some (.tup ys) -> H' b = some (.tup ys)) : KT H' kvs xs :=
 Paired.mapP r λ_ _ z => ⟨z.1, ht _ _ z.2.1, z.2.2⟩
section
variable {P : Program} {w : World} {H : Hp} {h : Heap} {a : Addr}
def Zp9 {u : HO} (ok : HOk P w H h) (e : Rd H a u) : ObjOk P w H h a u := e.ok ok
def JM {kvs : List (ZC × V)} (ok : HOk P w H h) (e : Rd H a (.dK kvs)) : kvs.length <= sizeLine /\ (a == sysModules) = false /\ ∃ vs, KV kvs vs /\ h.DictOf (ZO P w) a vs :=
 show ObjOk P w H h a (.dK kvs) from Zp9 ok e
def Zn4 {kvs : List (ZC × V)} (ok : HOk P w H h) (e : H a = some (.dK kvs)) : kvs.length <= sizeLine /\ (a == sysModules) = false /\ ∃ vs, KV kvs vs /\ h.DictOf (ZO P w) a vs := JM ok (.inl e)
def ZjB {ks : List ZC} (ok : HOk P w H h) (e : H a = some (.tup (ks.map kV))) : (tupleKind (ZO P w)).is h ks a := by
 obtain ⟨_, its, r, o, h1, h2, n, h3⟩ := (show ObjOk P w H h a (.tup (ks.map kV)) from ok a _ e)
 exact ⟨o, its.toArray, n, h1, h2, h3, by simpa using Zfs r⟩
def ZlS {kvs : List (List ZC × V)} (ok : HOk P w H h) (e : Rd H a (.dT kvs)) : kvs.length <= sizeLine /\ (a == sysModules) = false /\
  ∃ xs, KT H kvs xs /\ h.DictOfH (tupleKind (ZO P w)) a xs := by
 obtain ⟨z, y, xs, r, o, es, ep, h1, h2, h3, h4, h5⟩ := (show ObjOk P w H h a (.dT kvs) from Zp9 ok e)
 refine ⟨z, y, xs, r, o, es, ep, h1, h2, h3, h4, λx hx => ?_, h5⟩
 have all : ∀ {l : List (List ZC × V)} {m : List (List ZC × Addr × Value)}, KT H l m -> ∀ x ∈ m, (tupleKind (ZO P w)).is h x.1 x.2.1 := by
  intro l m q
  induction q with
  | nil => intro x hx; exact nomatch hx
  | @cons p q ps qs hq t ih =>
   intro x hx
   rcases Ym.mp hx with e | hx
   ·subst e
    exact ZjB ok (by rw [<- hq.1]; exact hq.2.1)
   ·exact ih x hx
 exact all r x hx
def Zrg {kvs : List (List ZC × V)} (ok : HOk P w H h) (e : H a = some (.dT kvs)) : kvs.length <= sizeLine /\ (a == sysModules) = false /\
  ∃ xs, KT H kvs xs /\ h.DictOfH (tupleKind (ZO P w)) a xs := ZlS ok (.inl e)
end
def DGet (H : Hp) (a : Addr) (y : V) (r : Option V) : Prop :=
 (∃ kvs k, Rd H a (.dK kvs) /\ y = kV k /\ r = Jw kvs k) \/ ∃ kvs k b, Rd H a (.dT kvs) /\ y = .ref b /\ H b = some (.tup (k.map kV)) /\ r = Jw kvs k
def DPut (H : Hp) (a : Addr) (y v : V) (H' : Hp) : Prop :=
 (∃ kvs k, H a = some (.dK kvs) /\ y = kV k /\ kvs.length < sizeLine /\ H' = upd H a (.dK (Jf kvs k v))) \/
 ∃ kvs k b, H a = some (.dT kvs) /\ y = .ref b /\ H b = some (.tup (k.map kV)) /\ kvs.length < sizeLine /\ H' = upd H a (.dT (Jf kvs k v))
theorem DGet.k {H : Hp} {a : Addr} {kvs : List (ZC × V)} {k : ZC} (e : H a = some (.dK kvs)) : DGet H a (kV k) (Jw kvs k) := .inl ⟨kvs, k, .inl e, rfl, rfl⟩
theorem DGet.t {H : Hp} {a b : Addr} {kvs : List (List ZC × V)} {k : List ZC} (e : H a = some (.dT kvs)) (eb : H b = some (.tup (k.map kV))) : DGet H a (.ref b) (Jw kvs k) := .inr ⟨kvs, k, b, .inl e, rfl, eb, rfl⟩
theorem DPut.k {H : Hp} {a : Addr} {kvs : List (ZC × V)} {k : ZC} {v : V} (e : H a = some (.dK kvs)) (hl : kvs.length < sizeLine) : DPut H a (kV k) v (upd H a (.dK (Jf kvs k v))) := .inl ⟨kvs, k, e, rfl, hl, rfl⟩
theorem DPut.t {H : Hp} {a b : Addr} {kvs : List (List ZC × V)} {k : List ZC} {v : V} (e : H a = some (.dT kvs)) (eb : H b = some (.tup (k.map kV))) (hl : kvs.length < sizeLine) :
  DPut H a (.ref b) v (upd H a (.dT (Jf kvs k v))) := .inr ⟨kvs, k, b, e, rfl, eb, hl, rfl⟩
section
variable {X : Cx} {pins : List (Addr × Obj)} {Z : St} {H : Hp} {s : Shared} {a : Addr} {y v : V} {u r : Value} {o : Option V} {A : Around} {E : Value -> Shared -> Prop}
def Inv.big (I : Inv X pins Z H s) : sysModules < s.heap.objs.size := by
 have h : mainGlobals < s.heap.objs.size := (I.mod.glob.keeps I.bk).lt
 exact Nat.lt_trans (by decide) h
def Zif {Q : Value -> Shared -> Prop} (hu : A.units + 1 < cLine) (I : Inv X pins Z H s) (g : DGet H a y (some v)) (ry : RelV y u) (h : ∀ w' s', Inv X pins Z H s' -> RelV v w' -> Q w' s') :
  wpAny (model X.prog X.w) A (getItem (.ref a) u) Q E s := by
 rcases g with ⟨kvs, k, e, ey, l⟩ | ⟨kvs, k, b, e, ey, eb, l⟩
 ·subst ey
  obtain ⟨z, hd, vs, rel, dd⟩ := JM I.hok e
  obtain ⟨w', hw, rw'⟩ := RelO.some_of (v := v) (o := valueAt vs k) (by rw [l]; exact rel.val k)
  exact wpAny_getItem_of (ZlG ry) dd.mapOf hw (h w' _ (I.tok _) rw')
 ·subst ey
  cases (show u = Value.ref b from ry)
  obtain ⟨z, hd, xs, rel, dd⟩ := ZlS I.hok e
  obtain ⟨w', hw, rw'⟩ := RelO.some_of (v := v) (o := (atKey xs k).map (·.2)) (by rw [l]; exact rel.val k)
  obtain ⟨p, hp, hp2⟩ := YG.mp hw
  refine wpAny_getItem_heap (tupleKind_room_in1 hu) (ZjB I.hok eb) dd hp ?_
  rw [hp2]
  exact h w' _ (I.tok _) rw'
def Zf7 {h' : Heap} {t' : Nat} {ob : HO} (I : Inv X pins Z H s) (mu : Mut (H a)) (hs : Heap.SameBut a s.heap h') (he : ∃ q, h'.get? a = some q) (new : ObjOk X.prog X.w (upd H a ob) h' a ob) :
  Inv X pins Z (upd H a ob) { s with heap := h', toks := t' } :=
 I.write (x := a) (e := a) mu (.inl rfl) (λb q hb z => (hs.2 b hb).trans z) he new
def Zjl {P : Program} {w : World} {H' : Hp} {h' : Heap} {kvs : List (ZC × V)} {vs : List (ZC × Value)} (z : kvs.length <= sizeLine) (hd : (a == sysModules) = false) (rel : KV kvs vs) (dd : h'.DictOf (ZO P w) a vs) :
  ObjOk P w H' h' a (.dK kvs) := ⟨z, hd, vs, rel, dd⟩
def Zja {H' : Hp} {Q : Unit -> Shared -> Prop} (hu : A.units + 1 < cLine) (I : Inv X pins Z H s) (g : DPut H a y v H') (ry : RelV y u) (rv : RelV v r) (h : ∀ s', Inv X pins Z H' s' -> Q () s') :
  wpAny (model X.prog X.w) A (setItem (.ref a) u r) Q E s := by
 rcases g with ⟨kvs, k, e, ey, l, eH⟩ | ⟨kvs, k, b, e, ey, eb, l, eH⟩
 ·subst ey eH
  obtain ⟨z, hd, vs, rel, dd⟩ := Zn4 I.hok e
  have hz : vs.length <= sizeLine := by rw [<- rel.length]; exact z
  have hl : (Jf kvs k v).length <= sizeLine := by have := ZbQ kvs k v; omega
  refine wpAny_setItem_pairs (hsz := hz) (ZlG ry) dd λh' dd' hs => h _ ?_
  have he : ∃ q, h'.get? a = some q := let ⟨q, _, _, hq, _⟩ := dd'; ⟨q, hq⟩
  exact Zf7 I (by rw [e]; exact True.intro) hs he (Zjl hl hd (rel.put k rv) dd')
 ·subst ey eH
  cases (show u = Value.ref b from ry)
  obtain ⟨z, hd, xs, rel, dd⟩ := Zrg I.hok e
  have hz : xs.length <= sizeLine := by rw [<- Paired.length rel]; exact z
  have hl : (Jf kvs k v).length <= sizeLine := by have := ZbQ kvs k v; omega
  refine wpAny_setItem_heap (hsz := hz) (tupleKind_room_in1 hu) (ZjB I.hok eb) dd λh' dd' hs => h _ ?_
  obtain ⟨q, es, ep, hq, h2, h3, h4, _, h5⟩ := dd'
  refine Zf7 I (by rw [e]; exact True.intro) hs ⟨q, hq⟩ ⟨hl, hd, _, (rel.put k eb rv).keeps λc ys ec => ?_, q, es, ep, hq, h2, h3, h4, h5⟩
  rw [Ze (Jc ec e (λz => nomatch z))]
  exact ec
end
section
variable {X : Cx} {pins : List (Addr × Obj)} {Z : St} {H : Hp} {s : Shared} {a : Addr} {kvs : List (ZC × V)} {k : ZC} {u : Value} {A : Around} {E : Value -> Shared -> Prop}
def Zq1 {v : V} {more : List Value} {Q : Value -> Shared -> Prop} (I : Inv X pins Z H s) (e : H a = some (.dK kvs)) (ry : RelV (kV k) u) (l : Jw kvs k = some v) (hm : more = [] \/ ∃ x, more = [x])
  (h : ∀ w' s', Inv X pins Z (upd H a (.dK (JU kvs k))) s' -> RelV v w' -> Q w' s') : wpAny (model X.prog X.w) A (call (.builtin "dict.pop") (.ref a :: u :: more)) Q E s := by
 obtain ⟨z, hd, vs, rel, dd⟩ := Zn4 I.hok e
 obtain ⟨w', hw, rw'⟩ := RelO.some_of (v := v) (o := valueAt vs k) (by rw [<- l]; exact rel.val k)
 have hp : (keyPart u).isSome = true := by
  cases k with
  | inl i => obtain ⟨t, q⟩ := (show ∃ t, u = Value.int i t from ry); subst q; rfl
  | inr x => obtain ⟨t, q⟩ := (show ∃ t, u = Value.str x t from ry); subst q; rfl
 have ha : argsOk "dict.pop" ⟨.ref a :: u :: more, []⟩ := by
  rcases hm with q | ⟨x, q⟩
  ·subst q; exact PySem.F.args_dict_pop_2 _ _
  ·subst q; exact PySem.F.args_dict_pop_3 _ _ _
 refine call_meetsIn PySem.F.slot_dict_pop dd.typeIs PySem.F.entry_dict_pop ha (meets_dict_pop_there (ZO X.prog X.w) a (ZlG ry) more hm hp)
  ⟨vs, w', dd, by rw [<- rel.length]; exact z, hw, λh' dd' hs => h w' _ ?_ rw'⟩
 have he : ∃ q, h'.get? a = some q := let ⟨q, _, _, hq, _⟩ := dd'; ⟨q, hq⟩
 exact Zf7 I (by rw [e]; exact True.intro) hs he (Zjl (Yh (Zl9 kvs k) z) hd (rel.drop k) dd')
def Zrs {Q : Value -> Shared -> Prop} (I : Inv X pins Z H s) (e : Rd H a (.dK kvs)) (h : ∀ t s', Inv X pins Z H s' -> Q (.int kvs.length t) s') : wpAny (model X.prog X.w) A (call (.builtin "len") [.ref a]) Q E s := by
 obtain ⟨z, hd, vs, rel, dd⟩ := JM I.hok e
 refine call_len_dict hd dd (by rw [<- rel.length]; rw [YJ] at z; omega) ?_
 rw [<- rel.length]
 exact h _ _ (I.tok _)
end
def ZrT (i : Expr) : Prop := ∀ ov iv, subscripted i false ov iv = operate [ov, iv] (getItem ov iv)
def Zoj {prog : Program} {w : World} {A : Around} {E : Value -> Shared -> Prop} {s : Shared} {env : Env} {value slice : Expr} {pos : Pos} {T id : String} {Q : Value -> Shared -> Prop}
  (hl : typeLookup (.type T) "__getitem__" = pure (some (.builtin id))) (hs : ZrT slice)
  (h : wpAny (model prog w) A (eval value env) (λo s₁ => wpAny (model prog w) A (eval slice env) (λi s₂ => s₂.TypeIs o T /\ wpAny (model prog w) A (getItem o i) Q E s₂) E s₁) E s) :
  wpAny (model prog w) A (eval (.Subscript value slice pos) env) Q E s := by
 refine Subscript_ (Yp h (λo s₁ h₁ => Yp h₁ (λi s₂ h₂ => ?_) λ_ _ x => x) λ_ _ x => x)
 obtain ⟨hT, h₂⟩ := h₂
 unfold subscriptTail
 refine Ya ?_
 rw [getitemInPython_of_ne hT.not_modules]
 refine Ya (wpAny_specialOf hT hl ?_)
 have fin : wpAny (model prog w) A (subscripted slice false o i) (λr s₃ => wpAny (model prog w) A (letTemporaryGo value o r >>= λ_ => pure r) Q E s₃) E s₂ := by
  rw [hs o i]
  exact wpAny_operating (Yp h₂ (λr s₃ h₃ => Ya (wpAny_letTemporaryGo (Yb h₃))) λ_ _ x => x)
 first
  | exact Yb (Ya fin)
  | exact Ya (Yb (Ya fin))
  | exact Ya fin
def Zgf {X : Cx} {pins : List (Addr × Obj)} {Z : St} {H : Hp} {s : Shared} {a : Addr} {y : V} {o : Option V} (I : Inv X pins Z H s) (g : DGet H a y o) : s.TypeIs (.ref a) "dict" := by
 rcases g with ⟨kvs, k, e, _, _⟩ | ⟨kvs, k, b, e, _, _, _⟩
 ·obtain ⟨_, _, vs, _, dd⟩ := JM I.hok e
  exact dd.typeIs
 ·obtain ⟨_, _, xs, _, dd⟩ := ZlS I.hok e
  exact dd.typeIs
section
variable {X : Cx} {o i e value : Expr} {pos pos' tpos : Pos} {td ty tv : TE}
end
def Zmq {P : Program} {w : World} {H : Hp} (h : Heap) (hb : sysModules < h.objs.size) : ObjOk P w H (h.push { cls := .type "dict", data := .dict #[] }) h.objs.size (.dK []) :=
 ⟨YA _, VG.mpr (Ne.symm (Yl hb)), [], .nil, Heap.DictOf.new h⟩
def Zqh : TE := λ_ H Q => ∀ p, H p = none -> Q (.ref p) (upd H p (.dK []))
section
variable {X : Cx} {pos : Pos}
def Zl2 : PE X (.Dict [] [] pos) Zqh := λpins s Z H Q I h =>
 wpAny_Dict_empty ⟨.ref s.heap.objs.size, _, I.laid (a := s.heap.objs.size) (o := .dK []) (t' := s.toks) (λ_ _ q => Yf _ q) (Yd _) (Zmq s.heap I.big), rfl, h _ (I.hok.fresh (Yd _))⟩
end
structure M1 (X : Cx) (o : Expr) (m : Str) (apos : Pos) (e : Expr) (cpos : Pos) : Prop where
 base : attributeBase o m X.env (eval o X.env) = eval o X.env
 few : ((backTo cpos (starEach [e] X.env)).all (λx => !x.1) && (backToKw cpos (keywordEach [] X.env)).all (λx => x.1.isSome)
  && decide (([e] : List Expr).length + ([] : List Keyword).length + (if ([] : List Keyword).isEmpty then 0 else 1) < 30)) = true
 line : (apos.endLine == cpos.line) = true
 trees : backTo cpos (starEach [e] X.env) = [(false, eval e X.env)]
structure M2 (X : Cx) (o : Expr) (m : Str) (apos : Pos) (e f : Expr) (cpos : Pos) : Prop where
 base : attributeBase o m X.env (eval o X.env) = eval o X.env
 few : ((backTo cpos (starEach [e, f] X.env)).all (λx => !x.1) && (backToKw cpos (keywordEach [] X.env)).all (λx => x.1.isSome)
  && decide (([e, f] : List Expr).length + ([] : List Keyword).length + (if ([] : List Keyword).isEmpty then 0 else 1) < 30)) = true
 line : (apos.endLine == cpos.line) = true
 trees : backTo cpos (starEach [e, f] X.env) = [(false, eval e X.env), (false, eval f X.env)]
def IsD (H : Hp) (a : Addr) : Prop := (∃ kvs, Rd H a (.dK kvs)) \/ ∃ kvs, Rd H a (.dT kvs)
def ZmP {X : Cx} {pins : List (Addr × Obj)} {Z : St} {H : Hp} {s : Shared} {a : Addr} (I : Inv X pins Z H s) (d : IsD H a) :
  s.TypeIs (.ref a) "dict" /\ (∀ b, Value.ref a = .ref b -> ∃ ob, s.heap.get? b = some ob /\ ob.dict = none) /\ (a == sysModules) = false := by
 rcases d with ⟨kvs, e⟩ | ⟨kvs, e⟩
 ·obtain ⟨_, hd, vs, _, dd⟩ := JM I.hok e
  refine ⟨dd.typeIs, λb q => ?_, hd⟩
  cases q
  obtain ⟨ob, _, _, h1, h2, _⟩ := dd
  exact ⟨ob, h1, h2.2.1⟩
 ·obtain ⟨_, hd, xs, _, dd⟩ := ZlS I.hok e
  refine ⟨dd.typeIs, λb q => ?_, hd⟩
  cases q
  obtain ⟨ob, _, _, h1, h2, _⟩ := dd
  exact ⟨ob, h1, h2.2.1⟩
section
variable {X : Cx} {pins : List (Addr × Obj)} {Z : St} {H : Hp} {s : Shared} {a : Addr} {y d : V} {u r : Value} {o : Option V} {A : Around} {E : Value -> Shared -> Prop}
end
def ZmU (td ty tx : TE) : TE := λZ H Q => td Z H λx H1 => ∃ a, x = .ref a /\ IsD H1 a /\ ty Z H1 λy H2 => tx Z H2 λz H3 => ∃ o, DGet H3 a y o /\ Q (o.getD z) H3
def Zg1 (td ty : TE) : TE := λZ H Q => td Z H λx H1 => ∃ a, x = .ref a /\ IsD H1 a /\ ty Z H1 λy H2 => ∃ kvs k v, H2 a = some (.dK kvs) /\ y = kV k /\ Jw kvs k = some v /\ Q v (upd H2 a (.dK (JU kvs k)))
section
variable {X : Cx} {o e f : Expr} {apos cpos : Pos} {td ty tx : TE}
def ZkS (ho : PE X o td) (he : PE X e ty) (m : M1 X o "pop" apos e cpos) : PE X (.Call (.Attribute o "pop" apos) [e] [] cpos) (Zg1 td ty) := by
 intro pins s Z H Q I h
 refine wpAny_Call_method m.base m.few m.line PySem.F.plainAttrs_dict PySem.F.slot_dict_pop PySem.F.type_dict_pop (ZR (ho pins s Z H _ I h) λu s1 ⟨x, H1, I1, rx, a, ex, d, q1⟩ => ?_)
 subst ex
 obtain rfl : u = Value.ref a := rx
 obtain ⟨t1, t2, _⟩ := ZmP I1 d
 refine ⟨t1, t2, ?_⟩
 rw [m.trees]
 refine VF rfl (V6 (YaA (ZR (he pins s1 Z H1 _ I1 q1) λiv s2 ⟨y, H2, I2, ry, kvs, k, v, ea, ey, l, q2⟩ => Calls.spliced_nil ?_)))
 subst ey
 exact Zq1 I2 ea ry l (.inl rfl) λw' s3 I3 rw' => ⟨v, _, I3, rw', q2⟩
end
section
variable {X : Cx} {pins : List (Addr × Obj)} {Z : St} {H : Hp} {s : Shared} {a : Addr} {kvs : List (ZC × V)} {A : Around} {E : Value -> Shared -> Prop}
def ZgW {Q : Value -> Shared -> Prop} (I : Inv X pins Z H s) (e : Rd H a (.dK kvs)) (h : ∀ p s', H p = none -> Inv X pins Z (upd H p (.dK kvs)) s' -> Q (.ref p) s') : wpAny (model X.prog X.w) A (call (.type "dict") [.ref a]) Q E s := by
 obtain ⟨z, hd, vs, rel, dd⟩ := JM I.hok e
 refine kt_call_dict hd dd (by rw [<- rel.length]; exact z) λh' dd' hs => ?_
 refine h _ _ (I.hok.fresh (Yd _)) (I.laid (a := s.heap.objs.size) (o := .dK kvs) (t' := s.toks) (λb q hq => ?_) (Yd _) (Zjl z (VG.mpr (Ne.symm (Yl I.big))) rel dd'))
 exact (hs.2 b (Yl (Ye hq))).trans (Yf _ hq)
end
section
variable {X : Cx} {pins : List (Addr × Obj)} {Z : St} {H : Hp} {s : Shared} {a : Addr} {y : V} {u : Value} {A : Around} {E : Value -> Shared -> Prop}
end
end L2
namespace My
def ZgH {a b : Int} : Int.gcd b (a % b) = Int.gcd a b := by
 rw [Int.emod_def, Int.gcd_comm a b]
 exact Int.gcd_sub_mul_left_right b a (a / b)
def Zdr {a b : Int} (hb : 0 < b) : (a % b).toNat < b.toNat := by
 have h1 := YT a (Int.ne_of_gt hb)
 have h2 := Y1 a hb
 omega
theorem Zjd (i : Int) : (if i < 0 then -i else i) = (i.natAbs : Int) := by
 split <;> omega
def Zkf (a b : Int) : Int.gcd (a.natAbs : Int) (b.natAbs : Int) = Int.gcd a b := by
 simp [Int.gcd]
def ZZ (t b : Int) : Int := if b < 0 then -(Int.gcd t b : Int) else (Int.gcd t b : Int)
def ZfH {t b : Int} (hb : b ≠ 0) : ZZ t b ≠ 0 := by
 have h := Yai t hb
 unfold ZZ
 split <;> omega
def ZaE (t b : Int) : ZZ t b ∣ t := by
 unfold ZZ
 split
 ·exact Int.neg_dvd.mpr (Int.gcd_dvd_left t b)
 ·exact Int.gcd_dvd_left t b
def Zaq (t b : Int) : ZZ t b ∣ b := by
 unfold ZZ
 split
 ·exact Int.neg_dvd.mpr (Int.gcd_dvd_right t b)
 ·exact Int.gcd_dvd_right t b
def ZgI (t b : Int) : (ZZ t b).natAbs = Int.gcd t b := by
 unfold ZZ
 split <;> simp
def Zbf {a d : Int} (h : d ∣ a) : a.fdiv d = a / d := by
 rw [Int.fdiv_eq_ediv_of_dvd h]
def Zld {t b : Int} (hb : b ≠ 0) : 0 < b / ZZ t b := by
 have hg := Yai t hb
 obtain ⟨k, hk⟩ := Zaq t b
 have e : b / ZZ t b = k := Int.ediv_eq_of_eq_mul_right (ZfH hb) hk
 rw [e]
 unfold ZZ at hk
 generalize hG : (Int.gcd t b : Int) = g at hk
 have hg' : 0 < g := by omega
 by_cases h : 0 < k
 ·exact h
 ·exfalso
  have h2 : 0 <= g * (-k) := Int.mul_nonneg (by omega) (by omega)
  have h3 : g * (-k) = -(g * k) := Int.mul_neg g k
  split at hk
  ·have h4 : -g * k = -(g * k) := Int.neg_mul g k
   omega
  ·omega
def Zsd {t b : Int} (hb : b ≠ 0) : Int.gcd (t / ZZ t b) (b / ZZ t b) = 1 := by
 rw [Int.gcd_ediv (ZaE t b) (Zaq t b), ZgI]
 exact Nat.div_self (Yai t hb)
def ZaJ {t b : Int} (hb : b ≠ 0) : t / ZZ t b = (Rat.divInt t b).num /\ b / ZZ t b = ((Rat.divInt t b).den : Int) := by
 have hp := Zld (t := t) hb
 have hc := Zsd (t := t) hb
 have hn := ZfH (t := t) hb
 have e1 : t = ZZ t b * (t / ZZ t b) := (Int.mul_ediv_cancel' (ZaE t b)).symm
 have e2 : b = ZZ t b * (b / ZZ t b) := (Int.mul_ediv_cancel' (Zaq t b)).symm
 have hden : (b / ZZ t b).toNat ≠ 0 := by omega
 have hcop : (t / ZZ t b).natAbs.Coprime (b / ZZ t b).toNat := by
  have : (b / ZZ t b).natAbs = (b / ZZ t b).toNat := by omega
  rw [<- this]; exact hc
 have key : Rat.divInt t b = ⟨t / ZZ t b, (b / ZZ t b).toNat, hden, hcop⟩ := by
  have : Rat.divInt (t / ZZ t b) (((b / ZZ t b).toNat : Nat) : Int) = ⟨t / ZZ t b, (b / ZZ t b).toNat, hden, hcop⟩ := by
   rw [Rat.divInt_ofNat]
   exact Rat.mkRat_self ⟨t / ZZ t b, (b / ZZ t b).toNat, hden, hcop⟩
  rw [<- this]
  rw [Rat.divInt_eq_divInt_iff hb (by omega)]
  have e3 : (((b / ZZ t b).toNat : Nat) : Int) = b / ZZ t b := by omega
  rw [e3]
  conv => lhs; rw [e1]
  conv => rhs; rw [e2]
  grind
 constructor
 ·rw [key]
 ·rw [key]; show b / ZZ t b = (((b / ZZ t b).toNat : Nat) : Int); omega
def Zaw {x y : Int} {a b : Nat} (hx : x.natAbs < 2 ^ a) (hy : y.natAbs < 2 ^ b) : (x * y).natAbs < 2 ^ (a + b) := by
 rw [Int.natAbs_mul, Vl]
 exact Nat.mul_lt_mul'' hx hy
def ZU {a c n : Nat} (h : n < 2 ^ a) (hac : a <= c) : n < 2 ^ c := Yo h (YU (by decide) hac)
def ZhU {x y : Int} {a b c : Nat} (hx : x.natAbs < 2 ^ a) (hy : y.natAbs < 2 ^ b) (ha : a <= c) (hb : b <= c) : (x + y).natAbs < 2 ^ (c + 1) := by
 have h1 := ZU hx ha
 have h2 := ZU hy hb
 rw [Nat.pow_succ]
 omega
def ZeN {t b : Int} (hb : b ≠ 0) : (Rat.divInt t b).num.natAbs <= t.natAbs := by
 rw [<- (ZaJ hb).1]
 exact Int.natAbs_ediv_le_natAbs _ _
def Zeh {t b : Int} (hb : b ≠ 0) : (Rat.divInt t b).den <= b.natAbs := by
 have h : ((Rat.divInt t b).den : Int).natAbs <= b.natAbs := by
  rw [<- (ZaJ (t := t) hb).2]
  exact Int.natAbs_ediv_le_natAbs _ _
 simpa using h
def ZaY {n k : Nat} (h : n < 2 ^ k) (hk : 0 < k) : n.log2 < k := by
 by_cases h0 : n = 0
 ·rw [h0]; simpa using hk
 ·exact (Nat.log2_lt h0).mpr h
def Zea {t b : Int} (hb : b ≠ 0) : Int.gcd t b <= b.natAbs := Nat.le_of_dvd (by omega) (Nat.gcd_dvd_right _ _)
def SzQ (n : Nat) (q : Rat) : Prop := q.num.natAbs < 2 ^ n /\ q.den < 2 ^ n
theorem SzQ.mono {n m : Nat} {q : Rat} (h : SzQ n q) (hm : n <= m) : SzQ m q := ⟨ZU h.1 hm, ZU h.2 hm⟩
theorem SzQ.of {n : Nat} {t b : Int} (hb : b ≠ 0) (ht : t.natAbs < 2 ^ n) (hb2 : b.natAbs < 2 ^ n) : SzQ n (Rat.divInt t b) :=
 ⟨Yz (ZeN hb) ht, Yz (Zeh hb) hb2⟩
def ZbA (q : Rat) : (q.den : Int) ≠ 0 := by have := q.den_pos; omega
def Zd9 (p q : Rat) : p + q = Rat.divInt (p.num * q.den + q.num * p.den) (p.den * q.den) := by
 conv => lhs; rw [<- Vn p, <- Vn q]
 exact Rat.divInt_add_divInt _ _ (ZbA p) (ZbA q)
def ZdW (p q : Rat) : (p.den : Int) * q.den ≠ 0 := Int.mul_ne_zero (ZbA p) (ZbA q)
end My
set_option Elab.async false
set_option maxRecDepth 100000
namespace My
open PySem PySem.Spec L2
open PyProof.Rows hiding St
def Zn : Expr -> Bool
 | .Starred .. => false
 | _ => true
def Zi {e : Expr} {es : List Expr} {env : Env} (h : Zn e = true) : starEach (e :: es) env = (false, eval e env) :: starEach es env := by
 cases e <;> first | rfl | cases h
def ZbL {env : Env} {pos : Pos} : ∀ {es : List Expr}, es.all Zn = true -> (backTo pos (starEach es env)).any (·.1) = false
 | [], _ => rfl
 | e :: es, h => by
  rw [List.all_cons, V9] at h
  rw [Zi h.1]
  have := ZbL (env := env) (pos := pos) h.2
  unfold backTo at this ⊢
  simpa using this
section
variable {X : Cx} {e : Expr} {es : List Expr} {te : TE} {t : TA} {pos p : Pos} {x : Str} {id T : String} {r : List V -> Hp -> VK -> Prop}
def Zr5 (ha : PE X e te) (hr : PA X es t) (hp : Zn e = true := by rfl) : PA X (e :: es) (Zh2 te t) := ZjE ha hr (Zi hp)
def ZM {e : Expr} {es : List Expr} (h : (e :: es).all Zn = true) : Zn e = true /\ es.all Zn = true := by
 rw [List.all_cons, V9] at h
 exact h
def ZjI (hc : CallR X (.builtin id) r) (hg : Gl X x) (hm : X.mg x = none) (hv : bootBuiltins x = some (.builtin id)) (ha : PA X (e :: es) t) (hp : (e :: es).all Zn = true := by rfl) (hn : x ≠ "__name__" := by decide) (hdb : (x == ("__debug__" : Str)) = false := by decide) :
  PE X (.Call (.Name x p) (e :: es) [] pos) (tCB r t) := ZaO hc hg hm hv ha hn hdb (Zi (ZM hp).1) (ZbL (ZM hp).2)
def Zqg (hc : CallR X (.type T) r) (hg : Gl X x) (hm : X.mg x = none) (hv : bootBuiltins x = some (.type T)) (ha : PA X (e :: es) t) (hp : (e :: es).all Zn = true := by rfl) (hn : x ≠ "__name__" := by decide) (hdb : (x == ("__debug__" : Str)) = false := by decide) :
  PE X (.Call (.Name x p) (e :: es) [] pos) (tCB r t) := Zbo hc hg hm hv ha hn hdb (Zi (ZM hp).1) (ZbL (ZM hp).2)
end
structure Fn (P : Program) (w : World) (K : PySem.W.Frag) (mg : Str -> Option Value) (base : Heap) (CX : CXT) (k : Nat) (x : Str) (ps : List Str) (sp : Sp) : Prop where
 ex : ∃ (f : Addr) (fd : FuncData), FnOk P w K mg base CX k f fd ps sp /\ Binds K fd ps [] /\ keepIn K (.ref f) = true /\ mg x = some (.ref f)
section
variable {X : Cx} {CX : CXT} {j k : Nat} {x : Str} {ps : List Str} {sp : Sp} {p pos : Pos} {e : Expr} {es : List Expr} {t : TA}
def Zrw (F : Fn X.prog X.w X.K X.mg X.base Zx j x ps sp) (hr : Room k X.A) (hj : j <= k) (hg : Gl X x) (ha : PA X (e :: es) t) (hp : (e :: es).all Zn = true := by rfl) (hdb : (x == ("__debug__" : Str)) = false := by decide) :
  PE X (.Call (.Name x p) (e :: es) [] pos) (Zfv sp [] E0 t) := by
 obtain ⟨f, fd, G, b, kp, m⟩ := F.ex
 exact Zgh G (hr.mono hj) hg m kp b .nil Zi8 ha hdb (Zi (ZM hp).1) (ZbL (ZM hp).2)
end
section
variable {X : Cx}
def Zmo : OpR X (binaryOp .FloorDiv) (rI (λ_ j => j ≠ 0 /\ j.natAbs.log2 < 9000) λi j => .int (i.fdiv j)) :=
 opI λ_ _ _ _ _ _ _ hc q => floordiv_int hc.1 q (.inl (PyProof.noPylong_of_log2 hc.2))
def Zlh : OpR X (binaryOp .FloorDiv) (rI (λ_ j => 0 < j /\ j.natAbs.log2 < 9000) λi j => .int (i / j)) :=
 opI λi j _ _ _ _ _ hc q => floordiv_int (Int.ne_of_gt hc.1) (by rw [Yaj i (Int.le_of_lt hc.1)]; exact q) (.inl (PyProof.noPylong_of_log2 hc.2))
def ZnS : OpR X (binaryOp .Mult) (rI IntMulOk λi j => .int (i * j)) := opI λ_ _ _ _ _ _ _ hc q => mul_int q hc
end
def JK (H : Hp) : V -> Option String
 | .non => some "NoneType"
 | .bl _ => some "bool"
 | .int _ => some "int"
 | .str _ => some "str"
 | .ref a => match H a with
  | some (.lst _) => some "list"
  | some (.tup _) => some "tuple"
  | some (.dK _) => some "dict"
  | _ => none
 | _ => none
def Znt : List String := ["NoneType", "bool", "int", "str", "list", "tuple", "dict"]
def J1 : List String := ["bool", "int", "str", "list", "tuple", "dict"]
def isA (t n : String) : Bool := t == n || (t == "bool" && n == "int")
def Zno (H : Hp) (x : Bool) : JK H (.bl x) = some "bool" := rfl
def Zmk (H : Hp) (i : Int) : JK H (.int i) = some "int" := rfl
theorem ZgK {H : Hp} {a : Addr} {xs : List V} (h : H a = some (.tup xs)) : JK H (.ref a) = some "tuple" := by unfold JK; dsimp only; rw [h]
theorem ZlH {H : Hp} {a : Addr} {xs : List V} (h : H a = some (.lst xs)) : JK H (.ref a) = some "list" := by unfold JK; dsimp only; rw [h]
def Zoo : ("int" ∈ J1) = True := eq_true (by decide)
def Zlv : ("bool" ∈ J1) = True := eq_true (by decide)
def Ziy : ("tuple" ∈ J1) = True := eq_true (by decide)
def Zl1 : ("list" ∈ J1) = True := eq_true (by decide)
def ZnJ : ("str" ∈ J1) = True := eq_true (by decide)
def ZpF : isA "bool" "bool" = true := by decide
def ZoV : isA "bool" "int" = true := by decide
def ZpI : isA "int" "int" = true := by decide
def ZpV : isA "int" "bool" = false := by decide
def Zo6 : isA "tuple" "tuple" = true := by decide
def ZpR : isA "list" "list" = true := by decide
def ZkI {K : PySem.W.Frag} {H : Hp} {x : V} {t : String} (e : JK H x = some t) : TyOf K H x (.type t) /\ t ∈ Znt := by
 unfold JK at e
 split at e
 ·cases e; exact ⟨.non, by decide⟩
 ·cases e; exact ⟨.bl _, by decide⟩
 ·cases e; exact ⟨.int _, by decide⟩
 ·cases e; exact ⟨.str _, by decide⟩
 ·split at e
  ·cases e; exact ⟨.lst (by assumption), by decide⟩
  ·cases e; exact ⟨.tup (by assumption), by decide⟩
  ·cases e; exact ⟨.dK (by assumption), by decide⟩
  ·cases e
 ·cases e
def Zi3 (K : PySem.W.Frag) : ∀ t ∈ Znt, ∀ n ∈ J1, kitOne K (.type t) (.type n) = some (isA t n) := by
 intro t ht n hn
 simp only [Znt, J1, List.mem_cons, List.not_mem_nil, or_false] at ht hn
 rcases ht with rfl | rfl | rfl | rfl | rfl | rfl | rfl <;> rcases hn with rfl | rfl | rfl | rfl | rfl | rfl <;> rfl
section
variable {X : Cx}
def Zj6 : CallR X (.builtin "isinstance") (λxs H Q => ∃ x n t, xs = [x, .ty n] /\ JK H x = some t /\ n ∈ J1 /\ Q (.bl (isA t n)) H) := by
 intro pins s Z H xs us Q I r h
 obtain ⟨x, n, t, rfl, e, hn, q⟩ := h
 obtain ⟨u, v, rfl, ru, rv⟩ := ZhS r
 cases (show v = Value.type n from rv)
 obtain ⟨ty, ht⟩ := ZkI (K := X.K) e
 exact ZiJ I ru ty (Zi3 X.K t ht n hn) λtk => ⟨.bl (isA t n), H, I.tok tk, rfl, q⟩
def Zrn {x : Str} {T : String} {pos : Pos} (hg : Gl X x) (hm : X.mg x = none) (hv : bootBuiltins x = some (.type T)) (hn : x ≠ "__name__" := by decide) (hd : (x == ("__debug__" : Str)) = false := by decide) : PE X (.Name x pos) (tC (.ty T)) :=
 ZnF hg hm hv rfl hn hd
end
section
variable {X : Cx} {e : Expr} {es : List Expr} {te : TE} {t : TA} {pos : Pos}
theorem ZG {H : Hp} {p : Addr} (h : H p = none) (o : HO) : Same H (upd H p o) := λb u q => by rw [Ze (Zp q h)]; exact q
def Zmm (t : TA) : TE := λZ H Q => t Z H λxs H1 => xs.length <= 1000 /\ ∀ p H2, H1 p = none -> Same H1 H2 -> H2 p = some (.tup xs) -> Q (.ref p) H2
def Zle (t : TA) : TE := λZ H Q => t Z H λxs H1 => xs.length <= 1000 /\ ∀ p H2, H1 p = none -> Same H1 H2 -> H2 p = some (.lst xs) -> Q (.ref p) H2
theorem Zd3 {n : Nat} (h : n <= 1000) : n <= sizeLine := Ys (Zfd h)
def Zox {x1} (h : PA X es t) : PE X (.Tuple es x1 pos) (Zmm t) := by
 intro pins s Z H Q I hq
 refine wpAny_Tuple_spliced (ZR (h pos pins s Z H _ I hq) λus s1 ⟨xs, H1, I1, r, z, q⟩ => ⟨by rw [<- r.length]; exact Zd3 z, ?_⟩)
 have hf : H1 s1.heap.objs.size = none := I1.hok.fresh (Yd _)
 refine ⟨.ref s1.heap.objs.size, upd H1 s1.heap.objs.size (.tup xs), I1.laid (t' := s1.toks) (λb u e => Yf _ e) (Yd _) ?_, rfl, q _ _ hf (ZG hf _) upd_same⟩
 exact ⟨Zd3 z, us, r, ⟨_, Yn _ rfl, rfl, _, rfl⟩⟩
def Zow (h : PA X es t) : PE X (.List es pos) (Zle t) := by
 intro pins s Z H Q I hq
 refine wpAny_List_spliced (ZR (h pos pins s Z H _ I hq) λus s1 ⟨xs, H1, I1, r, z, q⟩ => ⟨by rw [<- r.length]; exact Zd3 z, ?_⟩)
 have hf : H1 s1.heap.objs.size = none := I1.hok.fresh (Yd _)
 refine ⟨.ref s1.heap.objs.size, upd H1 s1.heap.objs.size (.lst xs), I1.laid (t' := s1.toks) (λb u e => Yf _ e) (Yd _) ?_, rfl, q _ _ hf (ZG hf _) upd_same⟩
 exact ⟨Zd3 z, us, 0, r, Yn _ rfl⟩
def ZmV {r r' : R2} (h : IxR X r) (i : ∀ x y H Q, r' x y H Q -> r x y H Q) : IxR X r' :=
 λvalue slice pins s Z H x y v u Q I rx ry q hs => h value slice pins s Z H x y v u Q I rx ry (i x y H Q q) hs
def ZkU : R2 := λx y H Q => ∃ p xs i v, x = .ref p /\ y = .int i /\ H p = some (.tup xs) /\ atI xs i = some v /\ Q v H
def Zl8 : R2 := λx y H Q => ∃ p xs i v, x = .ref p /\ y = .int i /\ H p = some (.lst xs) /\ atI xs i = some v /\ Q v H
def Zob : IxR X ZkU := ZmV Zqx λ_ _ _ _ ⟨p, xs, i, v, h1, h2, h3, h4, q⟩ => ⟨p, xs, i, v, h1, h2, SqT.of h3, h4, q⟩
def Znl : IxR X Zl8 := ZmV Zjp λ_ _ _ _ ⟨p, xs, i, v, h1, h2, h3, h4, q⟩ => ⟨p, xs, i, v, h1, h2, SqL.of h3, h4, q⟩
def ZjX : CallR X (.builtin "len") (λxs H Q => ∃ p ys, xs = [.ref p] /\ (H p = some (.lst ys) \/ H p = some (.tup ys)) /\ Q (.int ys.length) H) :=
 λpins s Z H xs us Q I r ⟨p, ys, h1, h2, q⟩ => Zcx pins s Z H xs us Q I r ⟨p, ys, h1, h2.imp SqL.of SqT.of, q⟩
def ZqJ (to : TE) (t : TA) : TE := λZ H Q => to Z H λx H1 => ∃ l zs, x = .ref l /\ H1 l = some (.lst zs) /\ t Z H1 λvs H2 => ∃ y xs, vs = [y] /\ H2 l = some (.lst xs) /\ xs.length < 1000000 /\ Q .non (upd H2 l (.lst (xs ++ [y])))
def ZrO {n : Nat} (h : n < 1000000) : n < sizeLine := Nat.lt_trans h (by decide)
def Zir {o : Expr} {to : TE} {apos cpos : Pos} (ho : PE X o to) (ha : PA X (e :: es) t)
  (hbase : attributeBase o "append" X.env (eval o X.env) = eval o X.env := by rfl)
  (hfew : ((backTo cpos (starEach (e :: es) X.env)).all (λx => !x.1) && (backToKw cpos (keywordEach [] X.env)).all (λx => x.1.isSome)
   && decide ((e :: es).length + ([] : List Keyword).length + (if ([] : List Keyword).isEmpty then 0 else 1) < 30)) = true := by rfl)
  (hline : (apos.endLine == cpos.line) = true := by rfl) (hs : starEach (e :: es) X.env = (false, eval e X.env) :: starEach es X.env := by rfl) (hplain : (backTo cpos (starEach es X.env)).any (·.1) = false := by rfl) :
  PE X (.Call (.Attribute o "append" apos) (e :: es) [] cpos) (ZqJ to t) := by
 intro pins s Z H Q I h
 refine wpAny_Call_method_late hbase hfew hline rfl (ZR (ho pins s Z H _ I h) λv s1 ⟨x, H1, I1, r1, l, zs, e1, e2, q1⟩ => ?_)
 obtain ⟨h1, h2⟩ := ZiH (T := "list") I1 r1 (by rw [e1]; exact .inl ⟨rfl, zs, SqL.of e2⟩)
 refine ⟨"list", "list.append", PySem.F.plainAttrs_list, PySem.F.slot_list_append, PySem.F.type_list_append, h1, h2, ?_⟩
 have hA := ha cpos pins s1 Z H1 _ I1 q1
 rw [hs] at hA ⊢
 refine VF (by show (false || (backTo cpos (starEach es X.env)).any (·.1)) = false; rw [hplain] <;> rfl) (V6 ?_)
 exact ZR hA λus s2 ⟨vs, H2, I2, r2, y, xs, e3, e4, z, q2⟩ => Zfi pins s2 Z H2 x vs v us Q I2 r1 r2 ⟨l, xs, y, e1, e3, e4, ZrO z, q2⟩
theorem Zr {H H' : Hp} {p : Addr} {o : HO} (hp : H p = none) (hs : Same H H') : Same H (upd H' p o) := λb u q => by rw [Ze (Zp q hp)]; exact hs b u q
def ZlN (n : Nat) (t : TGs) : TG := λv Z H Q => ∃ a xs, v = .ref a /\ H a = some (.tup xs) /\ xs.length = n /\ t xs Z H Q
def Znb {es : List Expr} {k : Nat} {t : TGs} {n : Nat} (hc : X.calm = true) (h : PGs X es t)
  (hn : (assignEach es X.env).length = n := by rfl) (hst : (assignEach es X.env).findIdx? (·.1) = none := by rfl) : PG X (.Tuple es k pos) (ZlN n t) :=
 λpins s Z H v u Q I r ⟨a, xs, h1, h2, h3, q⟩ => Zo8 hc h hn hst pins s Z H v u Q I r ⟨a, xs, h1, SqT.of h2, h3, q⟩
end
def Zr2 {α : Type} (x : α) (xs : List α) : atI (x :: xs) 0 = some x := ZP (j := 0) rfl
def Zsa {α : Type} (x y : α) (xs : List α) : atI (x :: y :: xs) 1 = some y := ZP (j := 1) rfl
def Zsb {α : Type} (x y z : α) (xs : List α) : atI (x :: y :: z :: xs) 2 = some z := ZP (j := 2) rfl
def Zsl {α : Type} (x y z u : α) (xs : List α) : atI (x :: y :: z :: u :: xs) 3 = some u := ZP (j := 3) rfl
def ZoA {α : Type} {xs : List α} {i : Int} (h0 : 0 <= i) (h1 : i < (xs.length : Int)) : ∃ v, atI xs i = some v /\ v ∈ xs := by
 have hk : i.toNat < xs.length := by omega
 refine ⟨xs[i.toNat], ?_, YI hk⟩
 have e : i = ((i.toNat : Nat) : Int) := by omega
 conv => lhs; rw [e]
 exact ZP (Yc hk)
def cellOf (ns : List Int) (k : Nat) : Int := ns.getD k (2 * (k : Int) + 1)
def Zov {ns : List Int} {k : Nat} (h : k < ns.length) : atI (ns.map V.int) (k : Int) = some (.int (cellOf ns k)) := by
 refine ZP ?_
 rw [Yi, Yc h]
 simp [cellOf, List.getD, List.getElem?_eq_getElem h]
def ZlE {ns : List Int} {k : Nat} (h : ¬ k < ns.length) : cellOf ns k = 2 * (k : Int) + 1 := by
 unfold cellOf
 rw [List.getD, YY (by omega)]
 rfl
def ZlQ (Z : St) (i : Nat) : Int := match Z[i]? with
 | some (some (.int m)) => m
 | _ => 0
def ZeE {c : TT} {tb : TS} {D : Ends} {Z : St} {H : Hp} (Pv : St -> Hp -> Prop) (μ : St -> Hp -> Nat) (h0 : Pv Z H)
  (hs : ∀ Z H, Pv Z H -> c Z H λb H1 => if b = true then ∃ N : St -> Hp -> Prop, (∀ Z' H', N Z' H' -> ∃ m', m' < μ Z H /\ (m' = μ Z' H' /\ Pv Z' H')) /\ tb { D with nx := N, ct := N, bk := D.nx } Z H1 else D.nx Z H1) : Ziq c tb D Z H := by
 refine ⟨λm Z H => m = μ Z H /\ Pv Z H, ⟨_, rfl, h0⟩, ?_⟩
 rintro m Z H ⟨rfl, p⟩
 exact hs Z H p
structure QE (X : Cx) (e : Expr) (t : TE) : Prop where
 h : PE X e t
structure QT (X : Cx) (e : Expr) (t : TT) : Prop where
 h : PT X e t
structure QW (X : Cx) (e : Expr) (t : TT) : Prop where
 h : PW X e t
structure QA (X : Cx) (es : List Expr) (t : TA) : Prop where
 h : PA X es t
structure QS (X : Cx) (st : Stmt) (t : TS) : Prop where
 h : PS X st t
structure QB (X : Cx) (sts : List Stmt) (t : TS) : Prop where
 h : PSs X sts t
structure QI (X : Cx) (tg it : Expr) (t : TI) : Prop where
 h : PI X tg it t
structure QG (X : Cx) (tg : Expr) (t : TG) : Prop where
 h : PG X tg t
structure QGs (X : Cx) (tgs : List Expr) (t : TGs) : Prop where
 h : PGs X tgs t
section
variable {X : Cx} {a b c e : Expr} {es rest : List Expr} {ta tb tc te : TE} {tA tB' : TT} {t : TA} {pos p : Pos} {x : Str}
theorem Zf (i : Nat) (hN : X.N[i]? = some x := by rfl) (hv : Vis X.env.scope x := by first | exact Or.inl rfl | exact Or.inr (Or.inl rfl) | exact Or.inr (Or.inr rfl)) (hd : (x == ("__debug__" : Str)) = false := by decide)
  (hcd : (x == ("__classdict__" : Str)) = false := by decide) : QE X (.Name x pos) (Zoa i) := ⟨ZmJ hN hv hd hcd⟩
def Zc {i j} : QE X (.Constant (.int i) j pos) (tC (.int i)) := ⟨Zpy⟩
theorem Zkt {k j} : QE X (.Constant (.bool k) j pos) (tC (.bl k)) := ⟨ZqW⟩
def Zrp {j} : QE X (.Constant .none j pos) (tC .non) := ⟨Zqm⟩
def JR {y j} : QE X (.Constant (.str y) j pos) (tC (.str y)) := ⟨Zp6⟩
def ZoQ {T : String} (hg : Gl X x) (hm : X.mg x = none) (hv : bootBuiltins x = some (.type T)) (hn : x ≠ "__name__" := by decide) (hd : (x == ("__debug__" : Str)) = false := by decide) : QE X (.Name x pos) (tC (.ty T)) := ⟨Zrn hg hm hv hn hd⟩
def Zic {a : Addr} (hg : Gl X x) (hm : X.mg x = some (.ref a)) (hd : (x == ("__debug__" : Str)) = false := by decide) : QE X (.Name x pos) (tC (.ref a)) := ⟨Zjz hg hm rfl hd⟩
def Jg (ha : QE X a ta) (hb : QE X b tb) : QE X (.BinOp a .Add b pos) (tOp (rI0 λi j => .int (i + j)) ta tb) := ⟨JV Zqp ha.h hb.h⟩
def JT (ha : QE X a ta) (hb : QE X b tb) : QE X (.BinOp a .Sub b pos) (tOp (rI0 λi j => .int (i - j)) ta tb) := ⟨JV ZpA ha.h hb.h⟩
def Znh (ha : QE X a ta) (hb : QE X b tb) : QE X (.BinOp a .Mult b pos) (tOp (rI CMul λi j => .int (i * j)) ta tb) := ⟨JV Zqr ha.h hb.h⟩
def Jj (ha : QE X a ta) (hb : QE X b tb) : QE X (.BinOp a .Mult b pos) (tOp (rI IntMulOk λi j => .int (i * j)) ta tb) := ⟨JV ZnS ha.h hb.h⟩
def ZY (ha : QE X a ta) (hb : QE X b tb) : QE X (.BinOp a .Mod b pos) (tOp (rI (λ_ j => 0 < j) λi j => .int (i % j)) ta tb) := ⟨JV Zpv ha.h hb.h⟩
def Jk (ha : QE X a ta) (hb : QE X b tb) : QE X (.BinOp a .FloorDiv b pos) (tOp (rI ZqI λi j => .int (i / j)) ta tb) := ⟨JV Zn0 ha.h hb.h⟩
def ZfY (ha : QE X a ta) (hb : QE X b tb) : QE X (.BinOp a .FloorDiv b pos) (tOp (rI (λ_ j => 0 < j /\ j.natAbs.log2 < 9000) λi j => .int (i / j)) ta tb) := ⟨JV Zlh ha.h hb.h⟩
def Zch (ha : QE X a ta) (hb : QE X b tb) : QE X (.BinOp a .FloorDiv b pos) (tOp (rI (λ_ j => j ≠ 0 /\ j.natAbs.log2 < 9000) λi j => .int (i.fdiv j)) ta tb) := ⟨JV Zmo ha.h hb.h⟩
def Zh8 (ha : QE X a ta) (hb : QE X b tb) : QE X (.BinOp a .Pow b pos) (tOp (rI ZqH λi j => .int (i ^ j.toNat)) ta tb) := ⟨JV ZpN ha.h hb.h⟩
def ZqY (ha : QE X a ta) (hb : QE X b tb) : QE X (.BinOp a .Add b pos) (tOp ZqU ta tb) := ⟨JV Zqi ha.h hb.h⟩
def ZpC (ha : QE X a ta) (hb : QE X b tb) : QE X (.BinOp a .Add b pos) (tOp (λx y H Q => ∃ i j, x = .str i /\ y = .str j /\ i.length + j.length <= sizeLine /\ Q (.str (i ++ j)) H) ta tb) := ⟨JV ZhG ha.h hb.h⟩
def Zro (ha : QE X a ta) : QE X (.UnaryOp .USub a pos) (tUn (rU λi => .int (-i)) ta) := ⟨Zru ZpL ha.h⟩
def ZrE (ha : QE X a ta) : QE X (.UnaryOp .Not a pos) (ZkB ta) := ⟨Zqq ha.h⟩
def Zjs {op} (ha : QE X a ta) : QE X (.BoolOp op [a] pos) ta := ⟨Zqs ha.h⟩
def ZfS (ha : QE X a ta) (hb : QE X (.BoolOp .And (b :: rest) pos) tb) : QE X (.BoolOp .And (a :: b :: rest) pos) (Zkz ta tb) := ⟨Zp0 ha.h hb.h⟩
def Zq7 (hc : QT X c tA) (ha : QE X a ta) (hb : QE X b tb) : QE X (.IfExp c a b pos) (tIf tA ta tb) := ⟨Zmp hc.h ha.h hb.h⟩
def ZrR (ha : QE X a ta) (hb : QE X b tb) : QE X (.Compare a [.Eq] [b] pos) (tOp rEq ta tb) := ⟨ZcW Zpo ha.h hb.h (JB _)⟩
def Zsk (ha : QE X a ta) (hb : QE X b tb) : QE X (.Compare a [.Lt] [b] pos) (tOp (rI0 λi j => .bl (decide (i < j))) ta tb) := ⟨ZcW ZoK ha.h hb.h (JB _)⟩
def ZrW (ha : QE X a ta) (hb : QE X b tb) : QE X (.Compare a [.GtE] [b] pos) (tOp (rI0 λi j => .bl (decide (j <= i))) ta tb) := ⟨ZcW Zo9 ha.h hb.h (JB _)⟩
def Jx (ha : QE X e te) (he : ∀ whole, isTrue e X.env whole = (do let v <- whole; standAt e.pos; holding [v] (truthy v)) := by intro _; rfl) : QT X e (tB te) := ⟨ZoW ha.h he⟩
def ZdR (ha : QT X a tA) : QT X (.UnaryOp .Not a pos) (ZqP tA) := ⟨Zpj ha.h⟩
def Zf6 (ha : QT X a tA) : QW X (.BoolOp .Or [a] pos) tA := ⟨Zp1 ha.h⟩
def ZmE (ha : QT X a tA) (hb : QW X (.BoolOp .Or (b :: rest) pos) tB') : QW X (.BoolOp .Or (a :: b :: rest) pos) (tOr tA tB') := ⟨Zri ha.h hb.h⟩
def t_w (h : QW X e tA) : QT X e tA := ⟨h.h.pt⟩
def ZkD (ha : QE X a ta) (hb : QE X b tb) : QT X (.Compare a [.Eq] [b] pos) (JP (tOp rEq ta tb)) := ⟨Za8 Zpo ha.h hb.h (JB _)⟩
def ZoT (ha : QE X a ta) (hb : QE X b tb) : QT X (.Compare a [.NotEq] [b] pos) (JP (tOp rNe ta tb)) := ⟨Za8 ZrB ha.h hb.h (JB _)⟩
def ZoS (ha : QE X a ta) (hb : QE X b tb) : QT X (.Compare a [.Lt] [b] pos) (JP (tOp (rI0 λi j => .bl (decide (i < j))) ta tb)) := ⟨Za8 ZoK ha.h hb.h (JB _)⟩
def ZrH (ha : QE X a ta) (hb : QE X b tb) : QT X (.Compare a [.Gt] [b] pos) (JP (tOp (rI0 λi j => .bl (decide (j < i))) ta tb)) := ⟨Za8 ZqX ha.h hb.h (JB _)⟩
def Zr8 (ha : QE X a ta) (hb : QE X b tb) : QT X (.Compare a [.GtE] [b] pos) (JP (tOp (rI0 λi j => .bl (decide (j <= i))) ta tb)) := ⟨Za8 Zo9 ha.h hb.h (JB _)⟩
def Zpi (ha : QE X a ta) (hb : QE X b tb) : QT X (.Compare a [.IsNot] [b] pos) (JP (tOp (λx y H Q => y = .non /\ Q (.bl (!decide (x = .non))) H) ta tb)) := ⟨Za8 ZnO ha.h hb.h (JB _)⟩
theorem Za : QA X [] Zn5 := ⟨ZmK⟩
theorem Zg (ha : QE X e te) (hr : QA X es t) (hp : Zn e = true := by rfl) : QA X (e :: es) (Zh2 te t) := ⟨Zr5 ha.h hr.h hp⟩
def Js {x1} (h : QA X es t) : QE X (.Tuple es x1 pos) (Zmm t) := ⟨Zox h.h⟩
def JJ (h : QA X es t) : QE X (.List es pos) (Zle t) := ⟨Zow h.h⟩
def ZI (ha : QE X a ta) (hb : QE X b tb) (hs : Zdi b := by intro _ _; rfl) : QE X (.Subscript a b pos) (tOp ZkU ta tb) := ⟨ZkO Zob ha.h hb.h hs⟩
def Jz (ha : QE X a ta) (hb : QE X b tb) (hs : Zdi b := by intro _ _; rfl) : QE X (.Subscript a b pos) (tOp Zl8 ta tb) := ⟨ZkO Znl ha.h hb.h hs⟩
def Zrc (ha : QE X a ta) (hb : QE X b tb) (hs : Zdi b := by intro _ _; rfl) : QE X (.Subscript a b pos) (tOp (ZqQ X.K) ta tb) := ⟨ZkO Zjp ha.h hb.h hs⟩
theorem Jt (hg : Gl X "len") (hm : X.mg "len" = none) (ha : QA X (e :: es) t) (hp : (e :: es).all Zn = true := by rfl) :
  QE X (.Call (.Name "len" p) (e :: es) [] pos) (tCB (λxs H Q => ∃ p ys, xs = [.ref p] /\ (H p = some (.lst ys) \/ H p = some (.tup ys)) /\ Q (.int ys.length) H) t) := ⟨ZjI ZjX hg hm PySem.boot_len ha.h hp⟩
def ZpD (hg : Gl X "len") (hm : X.mg "len" = none) (ha : QA X (e :: es) t) (hp : (e :: es).all Zn = true := by rfl) :
  QE X (.Call (.Name "len" p) (e :: es) [] pos) (tCB (λxs H Q => ∃ p ys, xs = [.ref p] /\ (SqL X.K H p ys \/ SqT X.K H p ys) /\ Q (.int ys.length) H) t) := ⟨ZjI Zcx hg hm PySem.boot_len ha.h hp⟩
def Znr (hg : Gl X "abs") (hm : X.mg "abs" = none) (ha : QA X (e :: es) t) (hp : (e :: es).all Zn = true := by rfl) :
  QE X (.Call (.Name "abs" p) (e :: es) [] pos) (tCB (λxs H Q => ∃ i, xs = [.int i] /\ Q (.int (if i < 0 then -i else i)) H) t) := ⟨ZjI Zlj hg hm (by rfl) ha.h hp⟩
def Zfn (hg : Gl X "isinstance") (hm : X.mg "isinstance" = none) (ha : QA X (e :: es) t) (hp : (e :: es).all Zn = true := by rfl) :
  QE X (.Call (.Name "isinstance" p) (e :: es) [] pos) (tCB (λxs H Q => ∃ x n t, xs = [x, .ty n] /\ JK H x = some t /\ n ∈ J1 /\ Q (.bl (isA t n)) H) t) := ⟨ZjI Zj6 hg hm (by rfl) ha.h hp⟩
def Zqn (hg : Gl X "int") (hm : X.mg "int" = none) (ha : QA X (e :: es) t) (hp : (e :: es).all Zn = true := by rfl) :
  QE X (.Call (.Name "int" p) (e :: es) [] pos) (tCB (λxs H Q => (∃ i, xs = [.int i] /\ Q (.int i) H) \/ ∃ k, xs = [.bl k] /\ Q (.int (if k then 1 else 0)) H) t) := ⟨Zqg Zkn hg hm (by rfl) ha.h hp⟩
variable {j k : Nat} {ps : List Str} {sp : Sp}
theorem ZB (F : Fn X.prog X.w X.K X.mg X.base Zx j x ps sp) (hr : Room k X.A) (hj : j <= k) (hg : Gl X x) (ha : QA X (e :: es) t) (hp : (e :: es).all Zn = true := by rfl) (hdb : (x == ("__debug__" : Str)) = false := by decide) :
  QE X (.Call (.Name x p) (e :: es) [] pos) (Zfv sp [] E0 t) := ⟨Zrw F hr hj hg ha.h hp hdb⟩
def Zed {o : Expr} {to : TE} {apos cpos : Pos} (ho : QE X o to) (ha : QA X [e] t) (hbase : attributeBase o "append" X.env (eval o X.env) = eval o X.env := by rfl) (hline : (apos.endLine == cpos.line) = true := by rfl) (hp : Zn e = true := by rfl) :
  QE X (.Call (.Attribute o "append" apos) [e] [] cpos) (ZqJ to t) :=
 ⟨Zir ho.h ha.h hbase (by rw [Zi hp]; rfl) hline (Zi hp) rfl⟩
end
section
variable {X : Cx} {st : Stmt} {rest a b body : List Stmt} {t u tb : TS} {e c tg it : Expr} {te : TE} {tc : TT} {pos : Pos} {g : TG} {wi : TI}
def Je : QB X [] Zlc := ⟨Zni⟩
def Zd (h1 : QS X st t) (h2 : QB X rest u) : QB X (st :: rest) (Zqe t u) := ⟨ZlF h1.h h2.h⟩
theorem Zh (h1 : QS X st t) : QB X [st] t := ⟨ZoB h1.h⟩
def Zbz : QS X st ZmI := ⟨ZlW⟩
theorem Zy (he : QE X e te) : QS X (.Return (some e) pos) (ZqC te) := ⟨Zpd he.h⟩
def Jo (hc : QT X c tc) (ha : QB X a t) (hb : QB X b u) : QS X (.If c a b pos) (ZpE tc t u) := ⟨Zq2 hc.h ha.h hb.h⟩
def Ja (he : QE X e te) (hs : swapsWith e none pos.line X.env = pure false := by rfl) : QS X (.Expr e pos) (Zmg te) := ⟨Zoz he.h hs⟩
def Zo {x : Str} {pos' : Pos} (i : Nat) (hN : X.N.Nodup) (he : QE X e te) (hi : X.N[i]? = some x := by rfl) (hx : Loc X.env.scope x := by first | exact Or.inl rfl | exact Or.inr rfl) (hs : swapsWith e (some (.Name x pos')) pos.line X.env = pure false := by rfl)
  (hf : X.fn x = true \/ X.env.scope.names.lookup x = some .local := by first | exact .inl rfl | exact .inr rfl | assumption) : QS X (.Assign [.Name x pos'] e pos) (Zku te (Jy i)) := ⟨Zp3 hN hi hx he.h hs hf⟩
def Zrx {x y : Str} {c d : Expr} {ta : TA} {px py pt : Pos} {kt k2 pt2} (i j : Nat) (hN : X.N.Nodup) (ha : QA X [c, d] ta) (hc : X.calm = true := by rfl) (hi : X.N[i]? = some x := by rfl) (hj : X.N[j]? = some y := by rfl) (hij : i ≠ j := by decide)
  (hx : X.env.scope.names.lookup x = some .local := by rfl) (hy : X.env.scope.names.lookup y = some .local := by rfl)
  (hw : swappedStores [.Tuple [.Name x px, .Name y py] kt pt] (.Tuple [c, d] k2 pt2) X.env = pure (some [x, y]) := by rfl)
  (hs : swapsWithSole [.Tuple [.Name x px, .Name y py] kt pt] (.Tuple [c, d] k2 pt2) pos.line X.env = pure false := by rfl) :
  QS X (.Assign [.Tuple [.Name x px, .Name y py] kt pt] (.Tuple [c, d] k2 pt2) pos) (ZqR i j ta) := ⟨ZpS hc hN hi hj hij hx hy ha.h hw hs⟩
def Zof (he : QE X e te) (hg : QG X tg g) (hs : swapsWithSole [tg] e pos.line X.env = pure false := by rfl) (hw : swappedStores [tg] e X.env = pure none := by rfl) (h1 : (assignEach [tg] X.env).map (·.2) = [assign tg X.env] := by rfl) : QS X (.Assign [tg] e pos) (Zku te g) := ⟨Zqd he.h hg.h hs hw h1⟩
def Zw {x : Str} (i : Nat) (hN : X.N.Nodup) (hi : X.N[i]? = some x := by rfl) (hx : Loc X.env.scope x := by first | exact Or.inl rfl | exact Or.inr rfl) (hf : X.fn x = true \/ X.env.scope.names.lookup x = some .local := by first | exact .inl rfl | exact .inr rfl | assumption) :
  QG X (.Name x pos) (Jy i) := ⟨Zn9 hN hi hx hf⟩
def Zd6 : QGs X [] ZqO := ⟨Znc⟩
def Jh {es : List Expr} {v : TGs} (h1 : QG X e g) (h2 : QGs X es v) (hs : (assignEach (e :: es) X.env).map (·.2) = assign e X.env :: (assignEach es X.env).map (·.2) := by rfl) : QGs X (e :: es) (ZkF g v) := ⟨Zls h1.h h2.h hs⟩
def Zhz {es : List Expr} {k : Nat} {v : TGs} {n : Nat} (h : QGs X es v) (hc : X.calm = true := by rfl) (hn : (assignEach es X.env).length = n := by rfl) (hst : (assignEach es X.env).findIdx? (·.1) = none := by rfl) :
  QG X (.Tuple es k pos) (ZlN n v) := ⟨Znb hc h.h hn hst⟩
def Zem (hp : PassesOwn (model X.prog X.w) X.A X.env X.xe) (hc : QT X c tc) (hb : QB X body tb) : QS X (.While c body [] pos) (Ziq tc tb) := ⟨ZkT hp hc.h hb.h⟩
def Jr (hp : PassesOwn (model X.prog X.w) X.A X.env X.xe) (hi : QI X tg it wi) (hg : QG X tg g) (hb : QB X body tb) (hc : X.calm = true := by rfl) (hs : ∀ x, foldedSetIterable it X.env x = pure x := by intro _; rfl) :
  QS X (.For tg it body [] pos) (Zks wi g tb) := ⟨Zqt hp hc hi.h hg.h hb.h hs⟩
def Ju (hl : QE X e te) : QI X tg e (Zef X.K te) := ⟨Znq hl.h⟩
def Zrd (hl : QE X e te) : QI X tg e (Zrb X.K te) := ⟨Zpg hl.h⟩
def ZdB {c : Expr} {ta : TA} {p : Pos} (hg : Gl X "range") (hm : X.mg "range" = none) (ha : QA X [c] ta) (hp : Zn c = true := by rfl) : QI X tg (.Call (.Name "range" p) [c] [] pos) (Zh0 ta) := ⟨Zj8 hg hm ha.h (Zi hp)⟩
def Zpx {c d : Expr} {ta : TA} {p : Pos} (hg : Gl X "range") (hm : X.mg "range" = none) (ha : QA X [c, d] ta) (hp : Zn c = true := by rfl) (hq : Zn d = true := by rfl) :
  QI X tg (.Call (.Name "range" p) [c, d] [] pos) (ZnW ta) := ⟨Zie hg hm ha.h (by rw [Zi hp, Zi hq]; rfl) (Zi hq)⟩
end
def JN {P : Program} {w : World} {K : PySem.W.Frag} {mg : Str -> Option Value} {base : Heap} {x qual : Str} {st : Stmt} {f : Addr} {fd : FuncData} {N ps : List Str} {k : Nat} {sp : Sp} (F : Fun K x qual st f fd) (S : FnScope N ps (Zb st)) (len : ∀ vs H Q E, sp vs H Q E -> vs.length = ps.length)
  (hbody : ∀ (cdv : Value) (A : Around) (outer : List Env) (s : Shared) (H : Hp) (vs : List V) (Q : VK) (E : XK), Room k (A.deeper (envOfC qual (Zb st) s.heap.objs.size f cdv)) -> sp vs H Q E ->
   ∃ t, QB (JY Zx P w K mg base N qual (Zb st) f cdv A outer s H E).nox (Zq st) t /\ t { nx := λ_ H' => Q .non H', rt := Q } (Zu N vs) H) : FnOk P w K mg base Zx (k + 1) f fd ps sp :=
 F.ok S len λcdv A outer s H vs Q E hr h => by
  obtain ⟨t, q, r⟩ := hbody cdv A outer s H vs Q E hr h
  exact ⟨t, q.h, r⟩
def Zk7 {P : Program} {w : World} {H : Hp} {h : Heap} {a : Addr} {o : HO} (x : ObjOk P w H h a o) : ∃ u, h.get? a = some u := by
 cases o with
 | lst xs => obtain ⟨_, _, _, _, e⟩ := x; exact ⟨_, e⟩
 | tup xs => obtain ⟨_, _, _, u, e, _⟩ := x; exact ⟨_, e⟩
 | dK kvs => obtain ⟨_, _, _, _, u, _, _, e, _⟩ := x; exact ⟨u, e⟩
 | dT kvs => obtain ⟨_, _, _, _, u, _, _, e, _⟩ := x; exact ⟨u, e⟩
 | set S n => obtain ⟨u, _, _, _, e, _⟩ := x; exact ⟨_, e⟩
 | ins C dx fs => obtain ⟨_, _, _, e, _⟩ := x; exact ⟨_, e⟩
 | own y => exact x
 | xd fs => obtain ⟨_, ⟨u, _, _, e, _⟩, _⟩ := x; exact ⟨_, e⟩
 | rng lo hi => obtain ⟨_, _, _, e⟩ := x; exact ⟨_, e⟩
 | frz ob u => exact ⟨_, x.1⟩
 | tbl ps => obtain ⟨_, e, _⟩ := x; exact ⟨_, e⟩
 | met f y => exact ⟨_, x⟩
 | ext φ => exact x.2.1
structure Cv (X : Cx) (pins : List (Addr × Obj)) (B : Heap) (H : Hp) : Prop where
 old : ∀ b o, X.s₀.heap.get? b = some o -> b ∉ frs X.stack -> ∃ o', B.get? b = some o'
 trk : ∀ b o, H b = some o -> ∃ o', B.get? b = some o'
 cel : ∀ x c, X.env.cells.lookup x = some c -> ∃ o', B.get? c = some o'
 pin : ∀ p ∈ X.pn ++ pins, ∃ o', B.get? p.1 = some o'
section
variable {X : Cx} {pins : List (Addr × Obj)} {Z : St} {H : Hp} {s : Shared}
def Zq3 {h' : Heap} {t' : Nat} {ch : List Addr} (I : Inv X pins Z H s)
  (hch : ∀ b ∈ ch, (∀ o, X.s₀.heap.get? b = some o -> b ∈ X.ex) /\ b ≠ X.env.locals /\ (∀ x c, X.env.cells.lookup x = some c -> c ≠ b) /\ ∀ p ∈ X.pn ++ pins, p.1 ≠ b)
  (keep : ∀ b o, b ≠ X.env.locals -> b ∉ X.fs -> b ∉ ch -> s.heap.get? b = some o -> h'.get? b = some o)
  (slot : ∀ b o, b ∈ X.fs -> s.heap.get? b = some o -> ∃ sl, h'.get? b = some { o with slots := sl })
  (ns : ∀ m, s.heap.Ns X.env.locals m -> h'.Ns X.env.locals m) (hok : HOk X.prog X.w H h') :
  Inv X pins Z H { s with heap := h', toks := t' } := by
 have neL : ∀ b o, X.s₀.heap.get? b = some o -> b ≠ X.env.locals := λb o e => Yl (Yo (Ye e) I.ok.above)
 have neC : ∀ b o, X.s₀.heap.get? b = some o -> b ∉ X.ex -> b ∉ ch := λb o e hx hb => hx ((hch b hb).1 o e)
 have cellK : ∀ x c, X.env.cells.lookup x = some c -> ∀ v, s.heap.IsCell c v -> h'.IsCell c v := λx c e v ⟨o, ho, hd⟩ => by
  have nch : c ∉ ch := λz => (hch c z).2.2.1 x c e rfl
  by_cases hc : c ∈ X.fs
  ·obtain ⟨sl, q⟩ := slot c o hc ho
   exact ⟨_, q, hd⟩
  ·exact ⟨o, keep c o (I.cne x c e) hc nch ho, hd⟩
 refine ⟨I.ok, I.os, I.bare, ⟨λb o e n hb hx => ?_, λb o e n hb hx => ?_, I.base.free, λb o e hx => ?_, I.base.tups, I.base.frzs, I.base.tbls⟩, ?_, λx c e => ?_, I.free, I.freeC, λp hp => ?_, hok, I.len⟩
 ·exact keep b o (neL b o e) hb (neC b o e hx) (I.base.keep b o e n hb hx)
 ·obtain ⟨sl, e1⟩ := I.base.slot b o e n hb hx
  obtain ⟨sl', e2⟩ := slot b _ hb e1
  exact ⟨sl', e2⟩
 ·obtain ⟨o', e1⟩ := I.base.there b o e hx
  by_cases hb : b ∈ X.fs
  ·obtain ⟨sl, e2⟩ := slot b _ hb e1
   exact ⟨_, e2⟩
  ·exact ⟨o', keep b o' (neL b o e) hb (neC b o e hx) e1⟩
 ·obtain ⟨m, hn, hl⟩ := I.loc
  refine ⟨m, ns m hn, λi x v e1 e2 e3 => ?_⟩
  obtain ⟨u, r, l⟩ := hl i x v e1 e2 e3
  refine ⟨u, r, ?_⟩
  rcases l with l | ⟨k, c, e, z⟩
  ·exact .inl l
  ·exact .inr ⟨k, c, e, cellK x c e _ z⟩
 ·obtain ⟨v, z⟩ := I.cell x c e
  exact ⟨v, cellK x c e v z⟩
 ·obtain ⟨e, n, ne, nf, d⟩ := I.pin p hp
  have nch : p.1 ∉ ch := λz => (hch p.1 z).2.2.2 p hp rfl
  exact ⟨keep p.1 p.2 ne nf nch e, n, ne, nf, d⟩
def fly {B h' : Heap} {t' : Nat} (I : Inv X pins Z H s) (hst : X.stack = X.env :: X.outer) (hfr : X.env.frame = some X.env.locals) (c : Cv X pins B H)
  (k0 : B.StaysIn s.heap) (k : B.StaysIn h') (u : s.heap.UpToSlots h') : Inv X pins Z H { s with heap := h', toks := t' } := by
 have mem : ∀ b, b ∈ frs X.stack ↔ b = X.env.locals \/ b ∈ X.fs := λb => by
  show b ∈ frs X.stack ↔ b = X.env.locals \/ b ∈ frs X.outer
  rw [hst]
  unfold frs
  rw [List.filterMap_cons_some hfr, Ym]
 let ch : List Addr := (List.range s.heap.objs.size).filter λb => (B.get? b).isNone && (s.heap.get? b).isSome && !decide (b ∈ frs X.stack)
 have hc : ∀ b, b ∈ ch -> B.get? b = none /\ b ∉ frs X.stack := λb hb => by
  have z := (Yt.mp hb).2
  simp only [Bool.and_eq_true, Option.isNone_iff_eq_none, Bool.not_eq_true', decide_eq_false_iff_not] at z
  exact ⟨z.1.1, z.2⟩
 have inB : ∀ b o, s.heap.get? b = some o -> b ∉ ch -> b ∉ frs X.stack -> B.get? b = some o := λb o e nc nf => by
  cases q : B.get? b with
  | none =>
   refine absurd (Yt.mpr ⟨Vg.mpr (Ye e), ?_⟩) nc
   simp only [q, e, Option.isNone_none, Option.isSome_some, Bool.true_and, Bool.and_true, Bool.not_eq_true', decide_eq_false_iff_not]
   exact nf
  | some o' =>
   have z := k0 b o' q
   rw [e] at z
   exact z.symm ▸ rfl
 refine Zq3 (ch := ch) I (λb hb => ?_) (λb o n1 n2 n3 e => ?_) (λb o hb e => ?_) (λm hm => u.ns hm) (λb o e => ?_)
 ·obtain ⟨n, nf⟩ := hc b hb
  refine ⟨λo e => ?_, λz => nf ((mem b).mpr (.inl z)), λx a e z => ?_, λp hp z => ?_⟩
  ·obtain ⟨o', q⟩ := c.old b o e nf
   rw [n] at q; cases q
  ·obtain ⟨o', q⟩ := c.cel x a e
   rw [z, n] at q; cases q
  ·obtain ⟨o', q⟩ := c.pin p hp
   rw [z, n] at q; cases q
 ·exact k b o (inB b o e n3 λz => ((mem b).mp z).elim n1 n2)
 ·obtain ⟨_, o', e', nd⟩ := I.funs.mem hb
  rw [e] at e'; cases e'
  exact u b o e nd
 ·refine (I.hok b o e).stay (λa v ha q => ?_) (λ_ q => q) λ_ _ q => q
  have tr : ∃ o', H a = some o' := by
   rcases ha with rfl | z
   ·exact ⟨_, e⟩
   ·exact ⟨_, z⟩
  obtain ⟨o', z⟩ := tr
  obtain ⟨o2, z2⟩ := c.trk a o' z
  have z3 := k0 a o2 z2
  rw [q] at z3
  cases z3
  exact k a v z2
end
def CX1 (P : Program) (w : World) : CXT := λouter H s E e s' => ∃ (ea C : Addr) (a0 : Value) (B : Heap) (H' : Hp), e = .ref ea /\ s'.os = s.os /\ AllBare s'.gens /\ Un (frs outer) [] H H' s.heap s'.heap /\ HOk P w H' s'.heap /\
 Heap.FlyingW B outer ea (.ref C) a0 s'.heap /\ (∀ b o, s.heap.get? b = some o -> b ∉ frs outer -> ∃ o', B.get? b = some o') /\ (∀ b o, H' b = some o -> ∃ o', B.get? b = some o') /\ E (.ref C) none H'
structure Body (X : Cx) : Prop where
 st : X.stack = X.env :: X.outer
 fr : X.env.frame = some X.env.locals
 ex : X.ex = []
 fn : ∀ x, X.fn x = true
structure Goes (X : Cx) (E : XK) : Prop extends Body X where
 xe : ∀ e s', wpAny (model X.prog X.w) X.A (leaving X.env e) (λ_ s'' => CX1 X.prog X.w X.outer X.H₀ X.s₀ E e s'') (λe' s'' => CX1 X.prog X.w X.outer X.H₀ X.s₀ E e' s'') s' -> X.xe e s'
section
variable {X : Cx} {E : XK} {pins : List (Addr × Obj)} {Z : St} {H : Hp} {s : Shared}
def Body.apart (b : Body X) (I : Inv X pins Z H s) : (∀ x c, X.env.cells.lookup x = some c -> (∃ o, s.heap.get? c = some o) /\ c ∉ frs X.stack) /\ (∀ p ∈ X.pn ++ pins, s.heap.get? p.1 = some p.2 /\ p.1 ∉ frs X.stack) /\
  (∀ a o, X.s₀.heap.get? a = some o -> ∃ o', s.heap.get? a = some o') /\ (∀ a o, H a = some o -> (∃ o', s.heap.get? a = some o') /\ a ∉ frs X.stack) := by
 refine ⟨λx c e => ?_, λp hp => ?_, λa o e => ?_, λa o e => ?_⟩
 ·obtain ⟨v, o, ho, hd⟩ := I.cell x c e
  refine ⟨⟨o, ho⟩, λz => ?_⟩
  rcases Ym.mp (I.stkSub c z) with q | q
  ·exact I.cne x c e q
  ·obtain ⟨_, o', e', _⟩ := I.ok.funs.mem q
   exact absurd (Yo (Ye e') (I.ok.cab x c (b.fn x) e)) (YF _)
 ·obtain ⟨e, n, ne, nf, d⟩ := I.pin p hp
  exact ⟨e, λz => (Ym.mp (I.stkSub _ z)).elim ne nf⟩
 ·exact I.base.there a o e (by rw [b.ex]; exact List.not_mem_nil)
 ·exact ⟨Zk7 (I.hok a o e), λz => by rw [I.stkFree a z] at e; cases e⟩
def Body.cv (b : Body X) (I : Inv X pins Z H s) {B : Heap} {H' : Hp} (cov : ∀ a o, s.heap.get? a = some o -> a ∉ frs X.stack -> ∃ o', B.get? a = some o') (trk : ∀ a o, H' a = some o -> ∃ o', B.get? a = some o') : Cv X pins B H' := by
 obtain ⟨h1, h2, h3, _⟩ := b.apart I
 refine ⟨λa o e n => ?_, trk, λx c e => ?_, λp hp => ?_⟩
 ·obtain ⟨o', e'⟩ := h3 a o e
  exact cov a o' e' n
 ·obtain ⟨⟨o, e'⟩, n⟩ := h1 x c e
  exact cov c o e' n
 ·obtain ⟨e', n⟩ := h2 p hp
  exact cov p.1 p.2 e' n
def Goes.raise (b : Goes X E) (I : Inv X pins Z H s) {h' : Heap} {e C : Addr} {vs : List Value} (hx : Heap.MadeExcOf s.heap h' e (.ref C) vs) (q : E (.ref C) none H) : X.xe (.ref e) { s with heap := h' } := by
 refine b.xe _ _ ?_
 have hB : (hideAll s.heap (frs X.stack)).StaysIn s.heap := λa o z => of_hideAll _ z
 have hl : s.heap.FunFrames (hideAll s.heap (frs X.stack)) (X.env :: X.outer) := by
  have z := PySem.W.funFrames_hide (as := frs X.stack) I.stack λenv he a ha => List.mem_filterMap.mpr ⟨env, he, ha⟩
  rw [b.st] at z ⊢
  exact z
 have hfr : X.A.frames = some (X.env :: X.outer) := by rw [I.ok.frames, b.st]
 have cov : ∀ a o, s.heap.get? a = some o -> a ∉ frs X.stack -> ∃ o', (hideAll s.heap (frs X.stack)).get? a = some o' := λa o z n => ⟨o, hideAll_get _ z n⟩
 have cv : Cv X pins (hideAll s.heap (frs X.stack)) H := b.toBody.cv I cov λa o z => by
  obtain ⟨⟨o', z'⟩, n⟩ := (b.toBody.apart I).2.2.2 a o z
  exact cov a o' z' n
 refine wpAny_leaves_madeW (s := { s with heap := h' }) hfr b.fr hB hl hx λh'' t fl tp bt us => ?_
 have us' : s.heap.UpToSlots h'' := (Heap.UpToSlots.of_keeps hx.keeps).trans us
 have I' := fly (t' := s.toks) I b.st b.fr cv hB fl.1 us'
 refine ⟨e, C, .ref t, _, H, rfl, I'.os, I'.bare, ?_, I'.hok, fl, λa o z n => ?_, cv.trk, q⟩
 ·have z := I'.base
  rw [b.ex] at z
  exact z
 ·obtain ⟨o', z'⟩ := (b.toBody.apart I).2.2.1 a o z
  refine cov a o' z' λm => ?_
  rcases Ym.mp (I.stkSub a m) with w | w
  ·exact absurd (Yo (Ye z) (w ▸ I.ok.above)) (YF _)
  ·exact n w
def Goes.pass (b : Goes X E) : ZcB (CX1 X.prog X.w) X E := by
 intro pins Z H s e s' I h
 obtain ⟨ea, C, a0, B, H', rfl, ho, hg, un, hok, fl, cov, trk, q⟩ := h
 refine b.xe _ _ ?_
 have I1 : Inv X pins Z H' s' := I.call' (ch := []) ho un hok hg λ_ z => nomatch z
 have hfr : X.A.frames = some (X.env :: X.outer) := by rw [I.ok.frames, b.st]
 have cv : Cv X pins B H' := b.toBody.cv I cov trk
 rw [b.st] at fl
 refine wpAny_leaves_onW hfr b.fr fl λh'' fl' us => ?_
 have I' := fly (t' := s'.toks) I1 b.st b.fr cv fl.1 fl'.1 us
 refine ⟨ea, C, a0, B, H', rfl, I'.os, I'.bare, ?_, I'.hok, fl', λa o z n => ?_, trk, q⟩
 ·have z := I'.base
  rw [b.ex] at z
  exact z
 ·obtain ⟨o', z'⟩ := (b.toBody.apart I).2.2.1 a o z
  refine cov a o' z' λm => ?_
  rcases Ym.mp (I.stkSub a m) with w | w
  ·exact absurd (Yo (Ye z) (w ▸ I.ok.above)) (YF _)
  ·exact n w
end
def ZdO {P : Program} {w : World} {K : PySem.W.Frag} {mg : Str -> Option Value} {base : Heap} {N : List Str} {qual : Str} {scope : Scope} {f : Addr} {cd : Value} {A : Around} {outer : List Env} {s : Shared} {H : Hp} {E : XK} :
  Goes (JY (CX1 P w) P w K mg base N qual scope f cd A outer s H E) E := ⟨⟨rfl, rfl, rfl, λ_ => rfl⟩, λ_ _ h => h⟩
def Zqa : List Value := [.type "ValueError", .type "Exception", .type "BaseException", .type "object"]
def ZoR (K : PySem.W.Frag) (C : Addr) : Prop := excIn K C Zqa "ValueError.__new__" = true
def ZnT {K : PySem.W.Frag} {h : Heap} {mg : Str -> Option Value} {x : Str} {C : Addr} (X : K.In h) (m : mg x = some (.ref C)) (q : ZoR K C) : OwnCls x C Zqa "ValueError.__new__" mg h := by
 refine ⟨m, ?_⟩
 have q := q
 unfold ZoR excIn at q
 split at q
 ·rename_i dd cd sl look
  split at q
  ·rename_i C1 bm1 z0 z1 z2 z3 n1 z5 mro1 sl1
   simp only [Bool.and_eq_true, beq_iff_eq, Bool.not_eq_true'] at q
   obtain ⟨⟨⟨⟨⟨rfl, rfl⟩, nodel⟩, tl⟩, nsok⟩, noinit⟩ := q
   obtain ⟨nm, bs, mro, ns, qn, hd, sn, sub, ab, col, del⟩ := cd
   dsimp only at mro1 nodel nsok noinit
   subst mro1 nodel
   have e2 : sl = #[z0, z1, z2, z3, some (.builtin "ValueError.__new__"), z5] := by
    cases sl with
    | mk l => exact congrArg Array.mk sl1
   subst e2
   exact ⟨bm1, ns, nm, qn, bs, hd, sn, sub, ab, col, dd, z0, z1, z2, z3, z5, _, X _ _ look, .of_isNs (PySem.W.isNs_of_in X nsok), PySem.W.nsMap_none_of_in X nsok noinit, PySem.W.tail_of_in X tl⟩
  ·cases q
 ·cases q
section
variable {X : Cx} {E : XK} {x : Str} {C : Addr} {np cpos pos : Pos} {e₀ : Expr} {rest : List Expr} {t : TA}
def Zg2 (C : Addr) (E : XK) (t : TA) : TS := λ_ Z H => t Z H λvs H1 => vs.length <= 1000 /\ E (.ref C) none H1
def Zky (b : Goes X E) (hc : X.calm = true) (hg : Gl X x) (hm : X.mg x = some (.ref C)) (q : ZoR X.K C) (ha : PA X (e₀ :: rest) t) (hdb : (x == ("__debug__" : Str)) = false := by decide)
  (he : starEach (e₀ :: rest) X.env = (false, eval e₀ X.env) :: starEach rest X.env := by rfl) (hpl : (backTo cpos (starEach rest X.env)).any (·.1) = false := by rfl) :
  PS X (.Raise (some (.Call (.Name x np) (e₀ :: rest) [] cpos)) none pos) (Zg2 C E t) := by
 intro pins s Z H D I h
 obtain ⟨bm, N, nm, qn, bs, hdct, sn, sub, ab, col, dd, k0, k1, k2, k3, k5, mN, hC, hN, hni, T⟩ := (ZnT (x := x) I.ok.mod.kin hm q).obj
 refine wpAny_Raise_call_subT (C := C) (nm := nm) (q := qn) (N := N) (bs := bs) (bm := bm) (hdct := hdct) (sn := sn) (sub := sub) (ab := ab) (col := col) (dd := dd) (k0 := k0) (k1 := k1) (k2 := k2) (k3 := k3) (k5 := k5) (mN := mN)
  PySem.F.excBase_ValueError (T.hasType (by decide +kernel)) (I.ok.hd hc) (by rw [he]; show (false || (backTo cpos (starEach rest X.env)).any (·.1)) = false; rw [hpl]; rfl) hni (Zco I hg hm ⟨rfl, ?_⟩ hdb)
 have h2 := ha cpos pins s Z H _ I h
 rw [he] at h2 ⊢
 refine V6 (ZR h2 λus s1 ⟨vs, H1, I1, r, z, qE⟩ => ?_)
 exact ⟨rfl, by show us.length <= sizeLine; rw [<- r.length]; exact Zd3 z, I1.bk _ _ hC, hN.keeps I1.bk, T.keeps I1.bk, λh' e hx => b.raise I1 hx qE⟩
end
def XP (X : Cx) (pins : List (Addr × Obj)) (Z : St) (EX : XK) (e : Value) (s' : Shared) : Prop :=
 ∃ (ea C : Addr) (a0 : Value) (B : Heap) (H' : Hp), e = .ref ea /\ Inv X pins Z H' s' /\ Heap.FlyingW B X.stack ea (.ref C) a0 s'.heap /\ Cv X pins B H' /\ EX (.ref C) none H'
abbrev TEX := St -> Hp -> VK -> XK -> Prop
def PEX (X : Cx) (e : Expr) (t : TEX) : Prop :=
 ∀ (pins : List (Addr × Obj)) (s : Shared) (Z : St) (H : Hp) (Q : VK) (EX : XK), Inv X pins Z H s -> t Z H Q EX -> wpAny (model X.prog X.w) X.A (eval e X.env) (EP X pins Z Q) (XP X pins Z EX) s
abbrev TSX := Ends -> (St -> XK) -> St -> Hp -> Prop
def ZrD (X : Cx) (sts : List Stmt) (t : TSX) : Prop :=
 ∀ (pins : List (Addr × Obj)) (s : Shared) (Z : St) (H : Hp) (D : Ends) (EX : St -> XK), Inv X pins Z H s -> t D EX Z H ->
  wpAny (model X.prog X.w) X.A (execs sts X.env) (SP X pins D) (λe s' => ∃ Z', XP X pins Z' (EX Z') e s') s
def PSX (X : Cx) (st : Stmt) (t : TSX) : Prop :=
 ∀ (pins : List (Addr × Obj)) (s : Shared) (Z : St) (H : Hp) (D : Ends) (EX : St -> XK), Inv X pins Z H s -> t D EX Z H ->
  wpAny (model X.prog X.w) X.A (exec st X.env) (SP X pins D) (λe s' => ∃ Z', XP X pins Z' (EX Z') e s') s
section
variable {X : Cx} {j k : Nat} {x : Str} {ps : List Str} {sp : Sp} {p pos : Pos} {e : Expr} {es : List Expr} {t : TA} {f : Addr} {fd : FuncData} {ds : List Value} {dvs : List V}
def Zgs (sp : Sp) (dvs : List V) (t : TA) : TEX := λZ H Q EX => t Z H λvs H1 => sp (vs ++ dvs) H1 Q EX
def Zr4 (b : Body X) (F : FnOk X.prog X.w X.K X.mg X.base (CX1 X.prog X.w) k f fd ps sp) (hr : Room k X.A) (hb : Binds X.K fd ps ds) (hd : Vals dvs ds) {pins : List (Addr × Obj)} {Z : St} {H : Hp} {s : Shared} {Q : VK} {EX : XK} {us : List Value} {vs : List V}
  (I : Inv X pins Z H s) (r : Vals vs us) (h : sp (vs ++ dvs) H Q EX) : wpAny (model X.prog X.w) X.A (call (.ref f) us) (EP X pins Z Q) (XP X pins Z EX) s := by
 have r2 : Vals (vs ++ dvs) (us ++ ds) := r.append hd
 have hl : (us ++ ds).length = ps.length := by rw [<- r2.length]; exact F.len _ _ _ _ h
 refine Vs (YN (F.run X.A X.stack s H ⟨us, []⟩ (us ++ ds) (vs ++ dvs) Q EX hr I.env0 (hb s us I.kIn hl) r2 h) λr s' hq => ?_)
 cases r with
 | error e =>
  obtain ⟨ea, C, a0, B, H', rfl, ho, hg, un, hok, fl, cov, trk, q⟩ := hq
  exact ⟨ea, C, a0, B, H', rfl, I.call' (ch := []) ho un hok hg (λ_ z => nomatch z), fl, b.cv I cov trk, q⟩
 | ok w =>
  cases w with
  | ret u => exact I.after hq
  | next => exact False.elim hq
  | brk => exact False.elim hq
  | cont => exact False.elim hq
def Zmc (b : Body X) (F : FnOk X.prog X.w X.K X.mg X.base (CX1 X.prog X.w) k f fd ps sp) (hr : Room k X.A) (hg : Gl X x) (hm : X.mg x = some (.ref f)) (hk : keepIn X.K (.ref f) = true) (hb : Binds X.K fd ps ds) (hd : Vals dvs ds)
  (ha : PA X.nox (e :: es) t) (hdb : (x == ("__debug__" : Str)) = false := by decide) (he : starEach (e :: es) X.env = (false, eval e X.env) :: starEach es X.env := by rfl) (hpl : (backTo pos (starEach es X.env)).any (·.1) = false := by rfl) :
  PEX X (.Call (.Name x p) (e :: es) [] pos) (Zgs sp dvs t) := by
 intro pins s Z H Q EX I h
 refine Y2 (Zco I hg hm ?_ hdb)
 refine callWith_K (h₀ := X.base) I.ok.mod.kin hk (Yp (ha pos pins s Z H _ (I.wish _) h) (λus s1 ⟨vs, H1, I1, r, q⟩ => ⟨I1.kIn, ?_⟩) λ_ _ z => z.elim) he hpl
 exact Zr4 b F hr hb hd I1.unwish r q
def ZlO {te : TEX} (he : PEX X e te) (hs : swapsWith e none pos.line X.env = pure false := by rfl) : PSX X (.Expr e pos) (λD EX Z H => te Z H (λ_ H1 => D.nx Z H1) (EX Z)) := by
 intro pins s Z H D EX I h
 exact wpAny_Expr_any (Yp (he pins s Z H _ _ I h) (λv s1 ⟨y, H1, I1, r1, q1⟩ => ⟨Z, H1, I1, q1⟩) λ_ _ z => ⟨Z, z⟩) I.quiet hs
def Zk3 {st : Stmt} {u : TSX} (h : PSX X st u) : ZrD X [st] u := by
 intro pins s Z H D EX I hq
 refine wpAny_execs_cons (Yp (h pins s Z H D EX I hq) (λfl s1 q => ?_) λ_ _ z => z)
 cases fl with
 | next => exact VT q
 | brk => exact q
 | cont => exact q
 | ret v => exact q
end
abbrev Xh (X : Cx) (ea : Addr) : Cx := { X with A := X.A.mark (some (.ref ea)), calm := false, xe := λ_ _ => False }
section
variable {X : Cx} {pins : List (Addr × Obj)} {Z : St} {H : Hp} {s : Shared} {ea : Addr}
def okH (ok : X.Ok) : (Xh X ea).Ok := ⟨ok.mod, ok.kind, ok.glob, ok.blt, ok.above, ok.inj, ok.has, ok.cab, (λz => nomatch z), ok.frames, ok.stk, ok.exf, ok.bs, ok.bsz, ok.noex, ok.exfs, ok.funs, ok.frf⟩
def toH (I : Inv X pins Z H s) : Inv (Xh X ea) pins Z H s := ⟨okH I.ok, I.os, I.bare, I.base, I.loc, I.cell, I.free, I.freeC, I.pin, I.hok, I.len⟩
def ofH (ok : X.Ok) (I : Inv (Xh X ea) pins Z H s) : Inv X pins Z H s := ⟨ok, I.os, I.bare, I.base, I.loc, I.cell, I.free, I.freeC, I.pin, I.hok, I.len⟩
def Zk8 (C ea : Addr) (h : Heap) : Prop := ∃ o, h.get? ea = some o /\ o.cls = .ref C
def ZhM (C ea : Addr) : HO := .ext (Zk8 C ea)
def Zq6 {o : HO} (I : Inv X pins Z H s) (hn : H ea = none) (h0 : ∀ u, X.s₀.heap.get? ea = some u -> False) (hL : ea ≠ X.env.locals) (hc : ∀ x c, X.env.cells.lookup x = some c -> c ≠ ea)
  (hp : ∀ p ∈ X.pn ++ pins, p.1 ≠ ea) (new : ObjOk X.prog X.w (upd H ea o) s.heap ea o) : Inv X pins Z (upd H ea o) s := by
 have ne : ∀ b u, H b = some u -> b ≠ ea := λb u e z => by rw [z, hn] at e; cases e
 refine ⟨I.ok, I.os, I.bare, ⟨I.base.keep, I.base.slot, λb u e n hx => ?_, I.base.there, λb xs e => ?_, λb u v e => ?_, λb qs e => ?_⟩, I.loc, I.cell, ?_, λx c e => ?_, λp h => ?_, λb u e => ?_, I.len⟩
 ·rw [Ze (λ(z : b = ea) => h0 u (by rw [<- z]; exact e))]
  exact I.base.free b u e n hx
 ·have z := I.base.tups b xs e
  rw [Ze (ne b _ z)]; exact z
 ·have z := I.base.frzs b u v e
  rw [Ze (ne b _ z)]; exact z
 ·obtain ⟨more, z⟩ := I.base.tbls b qs e
  exact ⟨more, by rw [Ze (ne b _ z)]; exact z⟩
 ·rw [Ze (Ne.symm hL)]; exact I.free
 ·rw [Ze (hc x c e)]; exact I.freeC x c e
 ·obtain ⟨e, n, r⟩ := I.pin p h
  exact ⟨e, by rw [Ze (hp p h)]; exact n, r⟩
 ·by_cases z : b = ea
  ·subst z
   rw [upd_same] at e
   cases e
   exact new
  ·rw [Ze z] at e
   refine (I.hok b u e).stay (λ_ _ _ q => q) (λc q => ?_) (λc xs q => ?_) λc o q => ?_
   ·rw [Ze (ne c _ q)]; exact q
   ·rw [Ze (ne c _ q)]; exact q
   ·rw [Ze (ne c _ q)]; exact q
def ZqK {i : Nat} {n : Str} {pos : Pos} {M : Model} {A : Around} {E : Value -> Shared -> Prop} {Q : Unit -> Shared -> Prop} (I : Inv X pins Z H s) (hN : X.N.Nodup) (hi : X.N[i]? = some n) (hk : X.env.scope.names.lookup n = some .local)
  (h : ∀ s', Inv X pins (Z.set i none) H s' -> Q () s') : wpAny M A (do bindName X.env n .none; unbindBehindTheSuite X.env n pos) Q E s := by
 obtain ⟨m, hn, hl⟩ := id I.loc
 have hcls : (X.env.scope.kind == .class || (X.env.scope.kind == .module && X.env.locals != X.env.globals)) = false := by rw [I.ok.kind]; rfl
 refine wpAny_nameGoes_keeps hk hn hcls λh' v hn' hs => ?_
 have ob : ∀ b o, X.s₀.heap.get? b = some o -> b ≠ X.env.locals := λb o e => Yl (Yo (Ye e) I.ok.above)
 refine h _ ⟨I.ok, I.os, I.bare, ⟨λb o e n' hb hx => ?_, λb o e n' hb hx => ?_, I.base.free, λb o e hx => ?_, I.base.tups, I.base.frzs, I.base.tbls⟩, ⟨_, hn', λj y v' e1 e2 e3 => ?_⟩, λy c e => ?_, I.free, I.freeC, λp hp => ?_, λb u e => ?_, by simpa using I.len⟩
 ·exact (hs.2 b (ob b o e)).trans (I.base.keep b o e n' hb hx)
 ·obtain ⟨sl, e1⟩ := I.base.slot b o e n' hb hx
  exact ⟨sl, (hs.2 b (ob b o e)).trans e1⟩
 ·obtain ⟨o', e1⟩ := I.base.there b o e hx
  exact ⟨o', (hs.2 b (ob b o e)).trans e1⟩
 ·by_cases hj : j = i
  ·subst hj
   have hiZ : j < Z.length := by rw [I.len]; exact (Yj.mp hi).1
   rw [Yao hiZ] at e2
   cases e2
  ·rw [Yaq (Ne.symm hj)] at e2
   obtain ⟨u', r', q⟩ := hl j y v' e1 e2 e3
   refine ⟨u', r', ?_⟩
   rcases q with ⟨k, e⟩ | ⟨k, c, e, z⟩
   ·refine .inl ⟨k, ?_⟩
    have ny : y ≠ n := λe => hj (ZeH hN e1 (e ▸ hi))
    show (if y = n then v else m y) = _
    rw [if_neg ny]; exact e
   ·exact .inr ⟨k, c, e, z.sameBut hs (I.cne y c e)⟩
 ·obtain ⟨w', z⟩ := I.cell y c e
  exact ⟨w', z.sameBut hs (I.cne y c e)⟩
 ·obtain ⟨e, n', ne, nf, d⟩ := I.pin p hp
  exact ⟨(hs.2 p.1 ne).trans e, n', ne, nf, d⟩
 ·refine (I.hok b u e).stay (λc w' hc q => (hs.2 c λz => ?_).trans q) (λ_ q => q) λ_ _ q => q
  have fr := I.free
  rcases hc with z' | z'
  ·rw [<- z, z', e] at fr; cases fr
  ·rw [<- z, z'] at fr; cases fr
end
def Zrq (K : PySem.W.Frag) (D : Addr) (i : Nat) (th : Addr -> TS) (En : Ends) (Z : St) : XK := λc _ H' => ∃ C, c = .ref C /\ exmOne K (.ref C) (.ref D) = some true /\ ∀ ea, H' ea = none ->
 th ea { nx := λZ2 H2 => En.nx (Z2.set i none) H2, rt := En.rt, bk := λZ2 H2 => En.bk (Z2.set i none) H2, ct := λZ2 H2 => En.ct (Z2.set i none) H2 } (Z.set i (some (.ref ea))) (upd H' ea (ZhM C ea))
def ZqN (K : PySem.W.Frag) (tb : TSX) (D : Addr) (i : Nat) (th : Addr -> TS) : TS := λEn Z H => tb En (Zrq K D i th En) Z H
section
variable {X : Cx} {body : List Stmt} {x n : Str} {np hpos pos : Pos} {b₀ : Stmt} {suite : List Stmt} {tb : TSX} {th : Addr -> TS} {D : Addr} {i : Nat}
def ZpK (b : Body X) (hb : ZrD X body tb) (hg : Gl X x) (hm : X.mg x = some (.ref D)) (hN : X.N.Nodup) (hi : X.N[i]? = some n) (hk : X.env.scope.names.lookup n = some .local) (hs : ∀ ea, PSs (Xh X ea) (b₀ :: suite) (th ea))
  (hdb : (x == ("__debug__" : Str)) = false := by decide) :
  PS X (.Try body [.ExceptHandler (some (.Name x np)) (some n) (b₀ :: suite) hpos] [] [] pos) (ZqN X.K tb D i th) := by
 intro pins s Z H En I h
 refine wpAny_Try_except (Yp (hb pins s Z H En _ I h) (λfl s1 q => ?_) λe s1 q => ?_)
 ·cases fl with
  | next => exact VT q
  | brk => exact q
  | cont => exact q
  | ret v => exact q
 ·obtain ⟨Z1, ea, C, a0, B, H1, rfl, I1, fl, cv, C', eC, hx, q⟩ := q
  cases eC
  have hfr : X.A.frames = some (X.env :: X.outer) := by rw [I.ok.frames, b.st]
  have flS := fl
  rw [b.st] at fl
  refine wpAny_looks_onW hfr b.fr fl λh4 held us4 => ?_
  refine wpAny_landsW (s := { s1 with heap := h4 }) held λh5 fl5 us5 => ?_
  have I5 : Inv X pins Z1 H1 { s1 with heap := h5, toks := s1.toks } := fly I1 b.st b.fr cv fl.1 fl5.1 (us4.trans us5)
  refine wpAny_handleBy_cons (codeAny_handlers_test ?_) (by intro z; cases z)
  refine Zco (X := Xh X ea) (toH I5) hg hm ?_ hdb
  obtain ⟨oe, he, hec⟩ := fl5.there
  have LT : PySem.W.Looks (model X.prog X.w) h5 (typeOf (.ref ea)) (.ref C) := hec ▸ (PySem.W.Looks.ld he).andThen .now
  refine PySem.W.exm_one (K := X.K) I5.kIn LT hx _ _ _ _ (λ_ _ z => z) ?_
  refine codeAny_handlers_suite_as ?_
  refine lands_againW (s := { s1 with heap := h5 }) fl5 λh6 fl6 us6 => ?_
  have I6 : Inv X pins Z1 H1 { s1 with heap := h6, toks := s1.toks } := fly I1 b.st b.fr cv fl.1 fl6.1 ((us4.trans us5).trans us6)
  obtain ⟨oe6, he6, hec6⟩ := fl6.there
  have nB : B.get? ea = none := fl6.2.1
  have hn : H1 ea = none := by
   cases z : H1 ea with
   | none => rfl
   | some o =>
    obtain ⟨o', z'⟩ := cv.trk ea o z
    rw [nB] at z'; cases z'
  have nfr : ea ∉ frs X.stack := λz => by
   obtain ⟨_, o, z1, z2⟩ := I6.stack.mem z
   obtain ⟨oe', vs, T, oT, ts, y1, _, y2, _⟩ := fl6.2.2.2
   have z1 : h6.get? ea = some o := z1
   rw [y1] at z1; cases z1
   exact z2 vs y2
  have I7 : Inv X pins Z1 (upd H1 ea (ZhM C ea)) { s1 with heap := h6, toks := s1.toks } := by
   refine Zq6 I6 hn (λu z => ?_) (λz => nfr ?_) (λy c e z => ?_) (λp hp z => ?_) ⟨⟨oe6, he6, hec6⟩, ⟨oe6, he6⟩, λha hb ⟨o, z1, z2⟩ k => ⟨o, k o z1, z2⟩⟩
   ·obtain ⟨o', z'⟩ := cv.old ea u z nfr
    rw [nB] at z'; cases z'
   ·rw [b.st]
    exact List.mem_filterMap.mpr ⟨X.env, .head _, by rw [z]; exact b.fr⟩
   ·obtain ⟨o', z'⟩ := cv.cel y c e
    rw [z, nB] at z'; cases z'
   ·obtain ⟨o', z'⟩ := cv.pin p hp
    rw [z, nB] at z'; cases z'
  refine ZbW (X := Xh X ea) (v := .ref ea) (toH I7) hN hi (.inl hk) rfl (λs8 I8 => ?_) (.inr hk)
  refine Yp (hs ea pins s8 _ _ _ I8 (q ea hn)) (λf s9 q9 => ?_) λ_ _ z => z.elim
  cases f with
  | next =>
   obtain ⟨Z9, H9, I9, q9⟩ := q9
   exact ZqK (ofH I.ok I9) hN hi hk λs' I' => ⟨_, _, I', q9⟩
  | brk =>
   obtain ⟨Z9, H9, I9, q9⟩ := q9
   exact ZqK (ofH I.ok I9) hN hi hk λs' I' => ⟨_, _, I', q9⟩
  | cont =>
   obtain ⟨Z9, H9, I9, q9⟩ := q9
   exact ZqK (ofH I.ok I9) hN hi hk λs' I' => ⟨_, _, I', q9⟩
  | ret v =>
   obtain ⟨y, Z9, H9, I9, r9, q9⟩ := q9
   exact ZqK (ofH I.ok I9) hN hi hk λs' I' => ⟨y, _, _, I', r9, q9⟩
end
end My
namespace My
open PySem PySem.Spec L2 PySem.W PySem.Builtin PySem.Builtin.ObjectAttr PySem.Builtin.Getset_descriptor
open PyProof.Rows hiding St
section
variable {prog : Program} {w : World} {A : Around} {E : Value -> Shared -> Prop} {s : Shared} {K : Frag} {x D : Addr}
def Zj9 {M : Model} {h : Heap} {C : Addr} (p : Zk8 C x h) : Looks M h (typeOf (.ref x)) (.ref C) := by
 obtain ⟨o, h1, h2⟩ := p
 exact h2 ▸ (Looks.ld h1).andThen .now
structure ExcK (K : Frag) (D : Addr) : Prop where
 cl : (clsIn K D).isSome = true
 ga : findIn K (.ref D) "__getattribute__" = some (some (.builtin "BaseException.__getattribute__"))
 no : findIn K (.ref D) "__getattr__" = some none
 ha : findIn K (.ref D) "__class__" = some (some (.builtin "object.__class__"))
 hn : specialIn K (.builtin "object.__class__") "__get__" = some (some (.builtin "getset_descriptor.__get__"))
 tk : takesIn K (.builtin "object.__class__") = some true
 mo : mroIn K D (.type "object") = some true
 mb : mroIn K D (.type "BaseException") = some true
def ZoN {R : Result -> Shared -> Prop} {tp : Value} (X : K.In s.heap) (ty : ∀ M : Model, Looks M s.heap (typeOf (.ref x)) (.ref D)) (hm : mroIn K D (.type "object") = some true) (h : R (.ok (.ret (.ref D))) s) :
  codeAny (model prog w) A (.call (.builtin "getset_descriptor.__get__") ⟨[.builtin "object.__class__", .ref x, tp], []⟩) R s := by
 obtain ⟨hh, gg, dd, tt, oo⟩ := s
 have T0 := ty (model prog w)
 have T1 := looks_mroIn (M := model prog w) X hm
 refine Yat KF.slot_gs.plain KF.entry_gs ?_
 refine KF.slot_gs.check _ _ _ _ _ _ _ _ KF.type_class (KF.args_gs _ _ _) ?_
 unfold Builtin.«getset_descriptor.__get__» descrGet
 rw [dga_obj]
 refine Ya (Yb ?_)
 unfold descrGetter descrCheckInstance descrNameAndClass isInstance
 simp only [KF.owner_class]
 repeat lk
 refine ⟨Code.quiet_builtin _ (by decide +kernel), ?_⟩
 refine Vf KF.entry_class ?_
 unfold Builtin.«object.__class__» shownTypeOf
 repeat lk
 exact h
def ZiV {Q : Option Value -> Shared -> Prop} (X : K.In s.heap) (T : ExcK K D) (p : Zk8 D x s.heap) (h : Q (some (.ref D)) { s with toks := s.toks + 1 }) : wpAny (model prog w) A (getAttr? (.ref x) "__class__") Q E s := by
 obtain ⟨hh, g, d, t, os⟩ := s
 have L0 := Zj9 (M := model prog w) p
 have L1 := looks_findIn (M := model prog w) X T.ga
 have L2 := looks_findIn (M := model prog w) X T.no
 have L3 := looks_mroIn (M := model prog w) X T.mo
 have L4 := looks_mroIn (M := model prog w) X T.mb
 have f3 := PySem.F.attr_ValueError.ga.bind (.ref x)
 unfold getAttr? getAttrBy? getAttrBy
 refine Ya (wpAny_mkText (Ya (VB (YD (Ya (L0.at (Ya (L1.at ?_))))))))
 dsimp only
 have own : (onTheHeap (Value.ref D) && Value.builtin "BaseException.__getattribute__" == Value.builtin "object.__getattribute__") = false := by
  rw [show (Value.builtin "BaseException.__getattribute__" == Value.builtin "object.__getattribute__") = false from by decide +kernel, Bool.and_false]
 rw [if_neg (by rw [own]; exact Yy)]
 unfold getAttrByItsOwn hookBefore
 rw [if_pos (show onTheHeap (Value.ref D) = true from rfl)]
 refine Ya (L2.at (Ya (VB (YD ?_))))
 unfold callGetattribute
 rw [if_neg (by decide)]
 unfold boundAndCalled
 rw [f3]
 refine Ya (Yb ?_)
 dsimp only
 refine Vs (Yat PySem.F.attr_ValueError.ga.plain F.entry_bexc_ga ?_)
 have hk : builtinKind "BaseException.__getattribute__" = some .slot := by decide +kernel
 have hp : splitId "BaseException.__getattribute__" = some ("BaseException", "__getattribute__") := by decide +kernel
 have ok := F.args_bexc_ga (.ref x) (.str "__class__" t)
 simp only [checkBuiltinCall, hk, hp, List.cons_append, List.nil_append]
 refine Ya ?_
 unfold isInstance
 refine Ya (L0.at (L4.at ?_))
 rw [if_neg (by decide)]
 refine wpAny_of_eq ok ?_
 have F1 := looks_findIn (M := model prog w) X T.ha
 have F2 : Looks (model prog w) hh (getOf (some (.builtin "object.__class__"))) (some (.builtin "getset_descriptor.__get__")) := looks_specialIn X T.hn
 have F3 := looks_takesIn (M := model prog w) X T.tk
 have LF : Looks (model prog w) hh (find (.ref x) (.ref D) "__class__") (.bind (.builtin "getset_descriptor.__get__") (.builtin "object.__class__")) :=
  F1.andThen (F2.andThen ((show Looks (model prog w) hh (dataDescriptor? (some (.builtin "object.__class__")) (some (.builtin "getset_descriptor.__get__"))) (some (.builtin "getset_descriptor.__get__", .builtin "object.__class__")) from F3.andThen .now).andThen (Looks.tag .now)))
 unfold Builtin.«object.__getattribute__»
 refine Ya (Yb ?_)
 dsimp only
 refine Ya (Yb ?_)
 refine Ya (L0.at (Ya (LF.at ?_)))
 dsimp only
 unfold bindTo
 dsimp only
 refine Ya (YD (Vs (ZoN X (λM => Zj9 p) T.mo ?_)))
 refine Yb ?_
 show wpAny _ _ (handedOut (.ref D)) _ _ _
 rw [handedOut_of rfl]
 exact Yb (Yb h)
def Zk2 (T : ExcK K D) : KitX K (.ref x) (.ref D) (Zk8 D x) where
 ty := λ_ _ _ q => Zj9 q
 it := λ_ _ X _ => by
  obtain ⟨cd, hc⟩ := Option.isSome_iff_exists.mp T.cl
  unfold clsIn at hc
  split at hc
  ·rename_i ho
   intro A' Q' E' s' k q
   unfold isType loadHead
   exact Ya (wpAny_loadPart (k _ _ (X _ _ ho)) (Yb q))
  ·cases hc
 ne := λh tp dd its n sl X htp => by
  obtain ⟨cd, hc⟩ := Option.isSome_iff_exists.mp T.cl
  refine Bool.eq_false_iff.mpr λq => ?_
  have e : D = tp := Value.ref.inj (V0.mp q)
  subst e
  unfold clsIn at hc
  split at hc
  ·rename_i ho
   have z := (X _ _ ho).symm.trans htp
   cases z
  ·cases hc
 ca := λX q k => ZiV X T q k
end
end My
namespace My
open PySem PySem.Spec L2
open PyProof.Rows hiding St
def ZrL : V -> Option Value
 | .ref a => some (.ref a)
 | .ty n => some (.type n)
 | _ => none
def Zk0 {y : V} {u c : Value} (r : RelV y u) (e : ZrL y = some c) : u = c := by
 cases y
 case ref a => cases e; exact r
 case ty n => cases e; exact r
 all_goals cases e
section
variable {X : Cx} {e : Expr} {es : List Expr} {t : TA} {pos p : Pos}
def ZmZ (K : PySem.W.Frag) : List V -> Hp -> VK -> Prop := λxs H Q => ∃ ea C y c b, xs = [.ref ea, y] /\ H ea = some (ZhM C ea) /\ ExcK K C /\ ZrL y = some c /\ kitOne K (.ref C) c = some b /\ Q (.bl b) H
def ZhE : CallR X (.builtin "isinstance") (ZmZ X.K) := by
 intro pins s Z H xs us Q I r h
 obtain ⟨ea, C, y, c, b, rfl, he, T, hc, hk, q⟩ := h
 obtain ⟨u, v, rfl, ru, rv⟩ := ZhS r
 cases (show u = Value.ref ea from ru)
 cases Zk0 rv hc
 obtain ⟨p, _⟩ := (show ObjOk X.prog X.w H s.heap ea (ZhM C ea) from I.hok ea _ he)
 exact kia_one (Zk2 T) I.kIn p hk (λz => nomatch z) λtk => ⟨.bl b, H, I.tok tk, rfl, q⟩
def ZbR (hg : Gl X "isinstance") (hm : X.mg "isinstance" = none) (ha : QA X (e :: es) t) (hp : (e :: es).all Zn = true := by rfl) : QE X (.Call (.Name "isinstance" p) (e :: es) [] pos) (tCB (ZmZ X.K) t) := ⟨ZjI ZhE hg hm (by rfl) ha.h hp⟩
end
structure FunD (K : PySem.W.Frag) (x qual : Str) (st : Stmt) (dV : Value) (f : Addr) (fd : FuncData) : Prop where
 ex : ∃ (oc : Value) (od : Option Addr) (kV doc pm : Value) (an : Option Addr) (cdv ct : Value) (osl : Array (Option Value)),
  fd = fnOf x qual (Zt st) (Zq st) (Zb st) dV kV doc pm an cdv ct /\ K.lookup f = some ⟨oc, od, .func fd, osl⟩ /\ codeIn K cdv qual = true
 kp : keepIn K (.ref f) = true
def Zel {K : PySem.W.Frag} {x qual : Str} {st : Stmt} {dV : Value} {f : Addr} {oc : Value} {od an : Option Addr} {osl : Array (Option Value)} {kV doc pm cdv ct : Value} (l : K.lookup f = some ⟨oc, od, .func (fnOf x qual (Zt st) (Zq st) (Zb st) dV kV doc pm an cdv ct), osl⟩)
  (c : codeIn K cdv qual = true) (k : keepIn K (.ref f) = true) : FunD K x qual st dV f (fnOf x qual (Zt st) (Zq st) (Zb st) dV kV doc pm an cdv ct) := ⟨⟨oc, od, kV, doc, pm, an, cdv, ct, osl, rfl, l, c⟩, k⟩
section
variable {P : Program} {w : World} {K : PySem.W.Frag} {mg : Str -> Option Value} {base : Heap} {x qual : Str} {st : Stmt} {dV : Value} {f : Addr} {fd : FuncData} {N ps : List Str} {k : Nat} {sp : Sp}
def okX (F : FunD K x qual st dV f fd) (S : FnScope N ps (Zb st)) (len : ∀ vs H Q E, sp vs H Q E -> vs.length = ps.length)
  (hbody : ∀ (cdv : Value) (A : Around) (outer : List Env) (s : Shared) (H : Hp) (vs : List V) (Q : VK) (E : XK), Room k (A.deeper (envOfC qual (Zb st) s.heap.objs.size f cdv)) -> sp vs H Q E ->
   ∃ t, QB (JY (CX1 P w) P w K mg base N qual (Zb st) f cdv A outer s H E) (Zq st) t /\ t { nx := λ_ H' => Q .non H', rt := Q } (Zu N vs) H) : FnOk P w K mg base (CX1 P w) (k + 1) f fd ps sp := by
 obtain ⟨oc, od, kV, doc, pm, an, cdv, ct, osl, rfl, lk, hcd⟩ := F.ex
 refine Zlq lk hcd S len λA outer s H vs Q E hr hsp => ?_
 obtain ⟨t, h, q⟩ := hbody cdv A outer s H vs Q E hr hsp
 exact ⟨t, h.h, q⟩
def Zr0 (F : FunD K x qual st dV f fd) (S : FnScope N ps (Zb st)) (len : ∀ vs H Q E, sp vs H Q E -> vs.length = ps.length)
  (hbody : ∀ (cdv : Value) (A : Around) (outer : List Env) (s : Shared) (H : Hp) (vs : List V) (Q : VK) (E : XK), Room k (A.deeper (envOfC qual (Zb st) s.heap.objs.size f cdv)) -> sp vs H Q E ->
   ∃ t, QB (JY Zx P w K mg base N qual (Zb st) f cdv A outer s H E).nox (Zq st) t /\ t { nx := λ_ H' => Q .non H', rt := Q } (Zu N vs) H) : FnOk P w K mg base Zx (k + 1) f fd ps sp := by
 obtain ⟨oc, od, kV, doc, pm, an, cdv, ct, osl, rfl, lk, hcd⟩ := F.ex
 refine Zlq lk hcd S len λA outer s H vs Q E hr hsp => ?_
 obtain ⟨t, h, q⟩ := hbody cdv A outer s H vs Q E hr hsp
 exact ⟨t, h.h.nox, q⟩
def ZnP (F : FnOk P w K mg base (CX1 P w) k f fd ps sp) : FnOk P w K mg base Zx k f fd ps (λvs H Q _ => sp vs H Q E0) :=
 ⟨λvs H Q _ h => F.len vs H Q _ h, λA outer s H args us vs Q _ hr e0 hb r h => YN (F.run A outer s H args us vs Q E0 hr e0 hb r h) λres s' q => by
  cases res with
  | error e =>
   obtain ⟨_, _, _, _, _, _, _, _, _, _, _, _, _, z⟩ := q
   exact z.elim
  | ok fl => cases fl <;> exact q⟩
end
def JI {x y : Int} {a b : Nat} (hx : x.natAbs < 2 ^ a) (hy : y.natAbs < 2 ^ b) (h : a + b <= 1000000) : IntMulOk x y := by
 have key : ∀ {z : Int} {n : Nat}, z.natAbs < 2 ^ n -> Builtin.Int.intBits z <= n := λ{z n} hz => by
  unfold Builtin.Int.intBits
  split
  ·exact YA _
  ·rename_i h0
   have h1 : z.natAbs ≠ 0 := by
    intro q
    apply h0
    have : z = 0 := by omega
    simp [this]
   have := (Nat.log2_lt h1).mpr hz
   omega
 exact IntMulOk.of_le (key hx) (key hy) (by omega)
structure FnD (P : Program) (w : World) (K : PySem.W.Frag) (mg : Str -> Option Value) (base : Heap) (CX : CXT) (k : Nat) (x : Str) (ps : List Str) (dvs : List V) (sp : Sp) : Prop where
 ex : ∃ (f : Addr) (fd : FuncData) (ds : List Value), FnOk P w K mg base CX k f fd ps sp /\ Binds K fd ps ds /\ Vals dvs ds /\ keepIn K (.ref f) = true /\ mg x = some (.ref f)
structure QX (X : Cx) (e : Expr) (t : TEX) : Prop where
 h : PEX X e t
structure QSX (X : Cx) (sts : List Stmt) (t : TSX) : Prop where
 h : ZrD X sts t
section
variable {X : Cx} {E : XK} {j k : Nat} {x : Str} {ps : List Str} {sp : Sp} {p pos : Pos} {e : Expr} {es : List Expr} {t : TA} {dvs : List V} {C : Addr}
def Zre (F : FnD X.prog X.w X.K X.mg X.base Zx j x ps dvs sp) (hr : Room k X.A) (hj : j <= k) (hg : Gl X x) (ha : QA X (e :: es) t) (hp : (e :: es).all Zn = true := by rfl) (hdb : (x == ("__debug__" : Str)) = false := by decide) :
  QE X (.Call (.Name x p) (e :: es) [] pos) (Zfv sp dvs E0 t) := by
 obtain ⟨f, fd, ds, G, b, v, kp, m⟩ := F.ex
 exact ⟨Zgh G (hr.mono hj) hg m kp b v Zi8 ha.h hdb (Zi (ZM hp).1) (ZbL (ZM hp).2)⟩
def ZoO (b : Goes X E) (F : Fn X.prog X.w X.K X.mg X.base (CX1 X.prog X.w) j x ps sp) (hr : Room k X.A) (hj : j <= k) (hg : Gl X x) (ha : QA X (e :: es) t) (hp : (e :: es).all Zn = true := by rfl) (hdb : (x == ("__debug__" : Str)) = false := by decide) :
  QE X (.Call (.Name x p) (e :: es) [] pos) (Zfv sp [] E t) := by
 obtain ⟨f, fd, G, bd, kp, m⟩ := F.ex
 exact ⟨Zgh G (hr.mono hj) hg m kp bd .nil b.pass ha.h hdb (Zi (ZM hp).1) (ZbL (ZM hp).2)⟩
def Zjm {np cpos : Pos} (b : Goes X E) (hm : X.mg x = some (.ref C)) (q : ZoR X.K C) (hg : Gl X x) (ha : QA X (e :: es) t) (hc : X.calm = true := by rfl) (hp : (e :: es).all Zn = true := by rfl) (hdb : (x == ("__debug__" : Str)) = false := by decide) :
  QS X (.Raise (some (.Call (.Name x np) (e :: es) [] cpos)) none pos) (Zg2 C E t) := ⟨Zky b hc hg hm q ha.h hdb (Zi (ZM hp).1) (ZbL (ZM hp).2)⟩
def ZgC {P : Program} {w : World} {K : PySem.W.Frag} {mg : Str -> Option Value} {base : Heap} {N : List Str} {qual : Str} {scope : Scope} {f : Addr} {cd : Value} {A : Around} {outer : List Env} {s : Shared} {H : Hp} {E : XK} {CX : CXT} :
  Body (JY CX P w K mg base N qual scope f cd A outer s H E).nox := ⟨rfl, rfl, rfl, λ_ => rfl⟩
def Zsc (b : Body X) (F : Fn X.prog X.w X.K X.mg X.base (CX1 X.prog X.w) j x ps sp) (hr : Room k X.A) (hj : j <= k) (hg : Gl X x) (ha : QA X.nox (e :: es) t) (hp : (e :: es).all Zn = true := by rfl) (hdb : (x == ("__debug__" : Str)) = false := by decide) :
  QX X (.Call (.Name x p) (e :: es) [] pos) (Zgs sp [] t) := by
 obtain ⟨f, fd, G, bd, kp, m⟩ := F.ex
 have G' : FnOk X.prog X.w X.K X.mg X.base (CX1 X.prog X.w) k f fd ps sp := G.mono hj
 exact ⟨Zmc b G' hr hg m kp bd .nil ha.h hdb (Zi (ZM hp).1) (ZbL (ZM hp).2)⟩
def tXE (te : TEX) : TSX := λD EX Z H => te Z H (λ_ H1 => D.nx Z H1) (EX Z)
def tXS (i : Nat) (te : TEX) : TSX := λD EX Z H => te Z H (λv H1 => D.nx (Z.set i (some v)) H1) (EX Z)
def ZoF {te : TEX} (he : QX X e te) (hs : swapsWith e none pos.line X.env = pure false := by rfl) : QSX X [.Expr e pos] (tXE te) := ⟨Zk3 (ZlO he.h hs)⟩
def Zrk {body : List Stmt} {n : Str} {np hpos : Pos} {b₀ : Stmt} {suite : List Stmt} {tb : TSX} {th : Addr -> TS} {D : Addr} (i : Nat) (b : Body X) (hN : X.N.Nodup) (hm : X.mg x = some (.ref D)) (hb : QSX X body tb) (hs : ∀ ea, QB (Xh X ea) (b₀ :: suite) (th ea))
  (hg : Gl X x := by rfl) (hi : X.N[i]? = some n := by rfl) (hk : X.env.scope.names.lookup n = some .local := by rfl) (hdb : (x == ("__debug__" : Str)) = false := by decide) :
  QS X (.Try body [.ExceptHandler (some (.Name x np)) (some n) (b₀ :: suite) hpos] [] [] pos) (ZqN X.K tb D i th) := ⟨ZpK b hb.h hg hm hN hi hk (λea => (hs ea).h) hdb⟩
end
inductive EqD (H : Hp) : V -> V -> Bool -> Nat -> Prop where
 | flat {x y : V} (fx : JL x = true) (fy : JL y = true) : EqD H x y (eqV x y) 0
 | tup {a b : Addr} {xs ys : List V} {e : Nat -> Bool} {n : Nat} (ha : H a = some (.tup xs)) (hb : H b = some (.tup ys)) (h : ∀ j x y, xs[j]? = some x -> ys[j]? = some y -> EqD H x y (e j) n) :
   EqD H (.ref a) (.ref b) ((List.range (min xs.length ys.length)).all e && xs.length == ys.length) (n + 1)
 | lst {a b : Addr} {xs ys : List V} {e : Nat -> Bool} {n : Nat} (ha : H a = some (.lst xs)) (hb : H b = some (.lst ys)) (hl : xs.length = ys.length) (h : ∀ j x y, xs[j]? = some x -> ys[j]? = some y -> EqD H x y (e j) n) :
   EqD H (.ref a) (.ref b) ((List.range xs.length).all e) (n + 1)
 | lstNe {a b : Addr} {xs ys : List V} {n : Nat} (ha : H a = some (.lst xs)) (hb : H b = some (.lst ys)) (hl : xs.length ≠ ys.length) : EqD H (.ref a) (.ref b) false (n + 1)
 | up {x y : V} {b : Bool} {n : Nat} (h : EqD H x y b n) : EqD H x y b (n + 1)
def ZcH {x : V} (h : JL x = true) : eqV x x = true := by
 cases x
 case non => rfl
 case bl b => simp [eqV]
 case int i => simp [eqV]
 case str y => simp [eqV]
 all_goals exact absurd (show false = true from h) (by decide)
def Ze2 {n : Nat} {e : Nat -> Bool} (h : ∀ j, j < n -> e j = true) : (List.range n).all e = true := List.all_eq_true.mpr λj hj => h j (Vg.mp hj)
def EqD.self {H : Hp} {x y : V} {b : Bool} {n : Nat} (h : EqD H x y b n) : x = y -> b = true := by
 induction h with
 | flat fx fy => intro e; subst e; exact ZcH fx
 | @tup a b xs ys e n ha hb h ih =>
  intro q
  injection q with q
  subst q
  rw [ha] at hb
  injection hb with hb
  injection hb with hb
  subst hb
  rw [Ze2, Bool.true_and, beq_self_eq_true]
  intro j hj
  rw [Nat.min_self] at hj
  exact ih j _ _ (Yc hj) (Yc hj) rfl
 | @lst a b xs ys e n ha hb hl h ih =>
  intro q
  injection q with q
  subst q
  rw [ha] at hb
  injection hb with hb
  injection hb with hb
  subst hb
  exact Ze2 λj hj => ih j _ _ (Yc hj) (Yc hj) rfl
 | up h ih => exact ih
 | lstNe ha hb hl =>
  intro q
  injection q with q
  subst q
  rw [ha] at hb
  injection hb with hb
  injection hb with hb
  subst hb
  exact absurd rfl hl
section
variable {X : Cx} {pins : List (Addr × Obj)} {Z : St} {H : Hp} {s : Shared}
theorem EqD.at (I : Inv X pins Z H s) {x y : V} {b : Bool} {n : Nat} (h : EqD H x y b n) : ∀ {A : Around} {u v : Value}, RelV x u -> RelV y v -> A.units + n < cLine ->
  SeqAt.EqAt A s u v b /\ ((∃ a c, x = .ref a /\ y = .ref c) -> SeqAt.RcAt A s u v b) := by
 induction h with
 | flat fx fy =>
  intro A u v r1 r2 _
  refine ⟨ZmM r1 r2 fx fy, ?_⟩
  rintro ⟨a, c, rfl, _⟩
  cases fx
 | @tup a b xs ys e n ha hb h ih =>
  intro A u v r1 r2 hu
  cases r1
  cases r2
  obtain ⟨its, v1, t1, _⟩ := I.tuple (SqT.of ha)
  obtain ⟨jts, v2, t2, _⟩ := I.tuple (SqT.of hb)
  have rc : SeqAt.RcAt A s (.ref a) (.ref b) ((List.range (min xs.length ys.length)).all e && xs.length == ys.length) := by
   have z := SeqAt.RcAt.tuples (A := A) (s := s) (e := e) t1 t2 (by omega) λj h1 h2 => by
    have k1 : j < xs.length := by rw [v1.length]; simpa using h1
    have k2 : j < ys.length := by rw [v2.length]; simpa using h2
    obtain ⟨u1, q1, w1⟩ := v1.get (Yc k1)
    obtain ⟨u2, q2, w2⟩ := v2.get (Yc k2)
    have g1 : its.toArray[j] = u1 := by
     have := Yj.mp q1
     obtain ⟨hh, this⟩ := this
     simpa using this
    have g2 : jts.toArray[j] = u2 := by
     have := Yj.mp q2
     obtain ⟨hh, this⟩ := this
     simpa using this
    rw [g1, g2]
    exact (ih j _ _ (Yc k1) (Yc k2) w1 w2 (by show A.units + 1 + n < cLine; omega)).1
   simpa [v1.length, v2.length] using z
  refine ⟨?_, λ_ => rc⟩
  by_cases q : a = b
  ·have := (EqD.tup ha hb h).self (by rw [q])
   rw [this, q]
   exact SeqAt.EqAt.same _
  ·exact SeqAt.EqAt.of_refs q rc
 | @lst a b xs ys e n ha hb hl h ih =>
  intro A u v r1 r2 hu
  cases r1
  cases r2
  obtain ⟨its, v1, t1, _⟩ := I.list (SqL.of ha)
  obtain ⟨jts, v2, t2, _⟩ := I.list (SqL.of hb)
  have rc : SeqAt.RcAt A s (.ref a) (.ref b) ((List.range xs.length).all e) := by
   have z := SeqAt.RcAt.lists (A := A) (s := s) (e := e) t1.isList t2.isList (by simp [<- v1.length, <- v2.length, hl]) (by omega) λj h1 h2 => by
    have k1 : j < xs.length := by rw [v1.length]; simpa using h1
    have k2 : j < ys.length := by rw [v2.length]; simpa using h2
    obtain ⟨u1, q1, w1⟩ := v1.get (Yc k1)
    obtain ⟨u2, q2, w2⟩ := v2.get (Yc k2)
    have g1 : its.toArray[j] = u1 := by
     have := Yj.mp q1
     obtain ⟨hh, this⟩ := this
     simpa using this
    have g2 : jts.toArray[j] = u2 := by
     have := Yj.mp q2
     obtain ⟨hh, this⟩ := this
     simpa using this
    rw [g1, g2]
    exact (ih j _ _ (Yc k1) (Yc k2) w1 w2 (by show A.units + 1 + n < cLine; omega)).1
   simpa [v1.length, v2.length] using z
  refine ⟨?_, λ_ => rc⟩
  by_cases q : a = b
  ·have := (EqD.lst ha hb hl h).self (by rw [q])
   rw [this, q]
   exact SeqAt.EqAt.same _
  ·exact SeqAt.EqAt.of_refs q rc
 | up h ih =>
  intro A u v r1 r2 hu
  exact ih r1 r2 (by omega)
 | @lstNe a b xs ys n ha hb hl =>
  intro A u v r1 r2 hu
  cases r1
  cases r2
  obtain ⟨its, v1, t1, _⟩ := I.list (SqL.of ha)
  obtain ⟨jts, v2, t2, _⟩ := I.list (SqL.of hb)
  have rc : SeqAt.RcAt A s (.ref a) (.ref b) false := SeqAt.RcAt.lists_lengths t1.isList t2.isList (by simp [<- v1.length, <- v2.length]; exact hl) (by omega)
  have ne : a ≠ b := λq => by
   subst q
   rw [ha] at hb
   injection hb with hb
   injection hb with hb
   subst hb
   exact hl rfl
  exact ⟨SeqAt.EqAt.of_refs ne rc, λ_ => rc⟩
end
section
variable {X : Cx} {a b : Expr} {ta tb : TE} {pos : Pos} {k : Nat}
end
section
variable {X : Cx} {pins : List (Addr × Obj)} {Z : St} {H : Hp} {s : Shared} {h' : Heap}
def ZcT {t' : Nat} {ch : List Addr} {o : HO} (I : Inv X pins Z H s) (k : ∀ b u, b ∉ ch -> s.heap.get? b = some u -> h'.get? b = some u) (hf : ∀ b ∈ ch, Jv X pins H b) (new : ObjOk X.prog X.w (upd H s.heap.objs.size o) h' s.heap.objs.size o) :
  Inv X pins Z (upd H s.heap.objs.size o) { s with heap := h', toks := t' } := by
 have hn : H s.heap.objs.size = none := I.hok.fresh (Yd _)
 have nch : ∀ b u, H b = some u -> b ∉ ch := λb u e z => by rw [(hf b z).1] at e; cases e
 have old : ∀ b u, H b = some u -> upd H s.heap.objs.size o b = some u := λb u e => by rw [Ze (Zp e hn)]; exact e
 refine I.step (g' := s.gens) (d' := s.drawn) (ch := ch) (λb hb => ⟨(hf b hb).2.2.2.1, (hf b hb).2.1, (hf b hb).2.2.2.2.1, (hf b hb).2.2.2.2.2⟩) (λb u _ _ hc e _ => k b u hc e) (λb u _ _ hc e _ => ⟨u.slots, k b u hc e⟩)
  (λb u hc e n => by rw [Ze (Nat.ne_of_lt (Heap.lt_size e))]; exact n) (λb u hc e => ⟨u, k b u hc e⟩) (λb xs e => old b _ e) (λb x u e => old b _ e) (λb ps e => ⟨#[], by rw [old b _ e]; simp⟩) (λm hm => ?_) (λb u e => ?_) I.bare
 ·obtain ⟨u, es, ep, ho, r⟩ := hm
  exact ⟨u, es, ep, k _ u (λz => (hf _ z).2.1 rfl) ho, r⟩
 ·by_cases hb : b = s.heap.objs.size
  ·subst hb; rw [upd_same] at e; cases e; exact new
  ·rw [Ze hb] at e
   refine (I.hok b u e).stay (λc v hc q => k c v ?_ q) (λc q => old c _ q) (λc xs q => old c _ q) λc o q => old c _ q
   rcases hc with z | z
   ·rw [z]; exact nch b u e
   ·exact nch c _ z
theorem Zkc {t' : Nat} {ch : List Addr} (I : Inv X pins Z H s) (k : ∀ b u, b ∉ ch -> s.heap.get? b = some u -> h'.get? b = some u) (hf : ∀ b ∈ ch, Jv X pins H b) : Inv X pins Z H { s with heap := h', toks := t' } := by
 have nch : ∀ b u, H b = some u -> b ∉ ch := λb u e z => by rw [(hf b z).1] at e; cases e
 refine I.step (g' := s.gens) (d' := s.drawn) (ch := ch) (λb hb => ⟨(hf b hb).2.2.2.1, (hf b hb).2.1, (hf b hb).2.2.2.2.1, (hf b hb).2.2.2.2.2⟩) (λb u _ _ hc e _ => k b u hc e) (λb u _ _ hc e _ => ⟨u.slots, k b u hc e⟩)
  (λb u hc e n => n) (λb u hc e => ⟨u, k b u hc e⟩) (λb xs e => e) (λb x u e => e) (λb ps e => ⟨#[], by rw [e]; simp⟩) (λm hm => ?_) (λb u e => ?_) I.bare
 ·obtain ⟨u, es, ep, ho, r⟩ := hm
  exact ⟨u, es, ep, k _ u (λz => (hf _ z).2.1 rfl) ho, r⟩
 ·refine (I.hok b u e).stay (λc v hc q => k c v ?_ q) (λc q => q) λc xs q => q
  rcases hc with z | z
  ·rw [z]; exact nch b u e
  ·exact nch c _ z
def Ite (K : PySem.W.Frag) (a : Addr) : It :=
 ⟨λi H => ∃ xs x, SqL K H a xs /\ xs[i]? = some x, λi H x H' => ∃ p y, x = .ref p /\ H p = none /\ Same H H' /\ H' p = some (.tup [.int i, y]) /\ ∀ xs, SqL K H a xs -> xs[i]? = some y, λi H => ∃ xs, SqL K H a xs /\ xs.length <= i⟩
def Zj0 {P : Program} {w : World} {K : PySem.W.Frag} {es : List Expr} {x1} {pos : Pos} (a it e : Addr) (hne : e ≠ it) : Turn P w K (.Tuple es x1 pos) (Ite K a) [it, e] e (λi h => (∃ old, IsEnum h e it (i : Nat) old) /\ h.IsListIter it a i) where
 mem := by simp
 obj := λi h st b hb => by
  obtain ⟨⟨old, he⟩, o, eo, c, d⟩ := st
  rcases Ym.mp hb with z | z
  ·subst z; exact ⟨o, eo, λv z => by rw [d] at z; cases z⟩
  ·have z : b = e := by simpa using z
   subst z; exact ⟨_, he, λv z => by cases z⟩
 keep := λi h h' st k => ⟨⟨st.1.choose, k e (by simp) _ st.1.choose_spec⟩, st.2.at λo x => k it (by simp) o x⟩
 item := by
  intro X hP hw hK hc i pins s Z H E I hf st hg
  subst hP hw hK
  obtain ⟨⟨old, he⟩, hit⟩ := st
  obtain ⟨xs, x, hq, hx⟩ := hg
  obtain ⟨its, rv, p, hz⟩ := I.list hq
  obtain ⟨u, hu, ru⟩ := rv.get hx
  have hn : H s.heap.objs.size = none := I.hok.fresh (Yd _)
  refine wpAny_pyNext_enum_item he hit p.isList (x := u) (by simpa using hu) hne λh' eo st' ht hsz kk => ?_
  refine ⟨_, rfl, wpAny_letOwnedTupleGo_enum (s := { s with heap := h', toks := s.toks + 1 }) eo λh2 he2 sb => ?_⟩
  have sb2 : ∀ b, b ≠ e -> h2.get? b = h'.get? b := sb.2
  have hel : s.heap.objs.size ≠ e := Vk (Ye he)
  have kt : h2.get? s.heap.objs.size = some { cls := .type "tuple", data := .seq #[.int i s.toks, u] } := (sb2 _ hel).trans ht
  have I1 : Inv X pins Z (upd H s.heap.objs.size (.tup [.int i, x])) { s with heap := h2, toks := s.toks + 1 } := by
   refine ZcT (ch := [it, e]) I (λb o hb q => ?_) hf ?_
   ·have hb' : b ≠ it /\ b ≠ e := by simpa using hb
    rw [sb2 b hb'.2]
    exact kk b o hb'.2 hb'.1 q
   ·exact ⟨by show 2 <= sizeLine; decide, [.int i s.toks, u], .cons ⟨_, rfl⟩ (.cons ru .nil), ⟨_, kt, rfl, _, rfl⟩⟩
  refine ⟨.ref s.heap.objs.size, _, I1, rfl, ⟨_, x, rfl, hn, ZG hn _, upd_same, λys hy => by rw [I.list_inj hy hq]; exact hx⟩, ⟨⟨u, ?_⟩, ?_⟩, λb hb => ?_⟩
  ·exact he2
  ·obtain ⟨o, q, r⟩ := st'
   exact ⟨o, (sb2 it (Ne.symm hne)).trans q, r⟩
  ·have hb1 := (hf b hb).1
   have : b ≠ s.heap.objs.size := λz => by
    rcases Ym.mp hb with y | y
    ·obtain ⟨o, q, _⟩ := hit
     exact YF _ (by have := Ye q; rw [<- y, z] at this; exact this)
    ·have y : b = e := by simpa using y
     exact hel (z.symm.trans y)
   rw [Ze this]
   exact hb1
 done := by
  intro X hP hw hK hc i pins s Z H E I hf st hg
  subst hP hw hK
  obtain ⟨⟨old, he⟩, hit⟩ := st
  obtain ⟨xs, hq, hx⟩ := hg
  obtain ⟨its, rv, p, hz⟩ := I.list hq
  have hl := rv.length
  refine wpAny_pyNext_enum_end (I.ok.hd hc) he hit p.isList (by simp; omega) λh' eb => ⟨rfl, Zkc (t' := s.toks) (ch := [it, e]) I (λb o hb q => eb b o (λz => hb (by simp [z])) q) hf⟩
 self := λ_ _ _ _ _ st h => wpAny_pyIter_enum st.1.choose_spec h
def Zoh (K : PySem.W.Frag) (ta : TA) : TI := λZ H R => ta Z H λvs H1 => ∃ a, vs = [.ref a] /\ (∃ xs, SqL K H1 a xs) /\ R (Ite K a) H1
def ZnG {l : Expr} {ta : TA} {p pos pos' : Pos} {es : List Expr} {x1} (hg : Gl X "enumerate") (hm : X.mg "enumerate" = none) (ha : PA X [l] ta) (hs : starEach [l] X.env = [(false, eval l X.env)] := by rfl) : PI X (.Tuple es x1 pos') (.Call (.Name "enumerate" p) [l] [] pos) (Zoh X.K ta) := by
 intro pins s Z H R I h
 refine Call_ (Jp I hg hm boot_enumerate (Y9 (ZR (ha pos pins s Z H _ I h) λus s1 ⟨vs, H1, I1, r1, q1⟩ => ?_) hs rfl))
 obtain ⟨a, e, ⟨xs, hq⟩, q⟩ := q1
 subst e
 cases r1 with
 | cons r rr =>
  cases rr
  cases r
  obtain ⟨its, rv, pl, hz⟩ := I1.list hq
  refine call_enumerate_list pl.isList λh' he hit hsz kk => ?_
  have I2 : Inv X pins Z H1 { s1 with heap := h' } := I1.kept (t' := s1.toks) kk
  refine wpAny_pyIter_enum (s := { s1 with heap := h' }) he ⟨_, [s1.heap.objs.size, s1.heap.objs.size + 1], _, _, H1, rfl, I2, Zj0 a _ _ (Nat.succ_ne_self _), ⟨⟨.none, he⟩, hit⟩, λb hb => ?_, q⟩
  have hb' : s1.heap.objs.size <= b := by
   rcases Ym.mp hb with z | z
   ·exact Vp z.symm
   ·have z : b = s1.heap.objs.size + 1 := by simpa using z
    rw [z]; exact Vq _
  exact I1.fpOk hb' (I1.hok.fresh hb')
theorem Zdt : ∀ {xs : List V} {us : List Value}, xs.length = us.length -> (∀ (i : Nat) x u, xs[i]? = some x -> us[i]? = some u -> RelV x u) -> Vals xs us
 | [], [], _, _ => .nil
 | x :: xs, u :: us, hl, h => .cons (h 0 x u rfl rfl) (Zdt (by simpa using hl) λi x u h1 h2 => h (i + 1) x u h1 h2)
def Zm3 (lo hi : Int) : List V := (List.range (hi - lo).toNat).map λk : Nat => V.int (lo + (k : Int))
theorem ZeM {lo hi : Int} : (Zm3 lo hi).length = (hi - lo).toNat := by simp [Zm3]
def ZkQ {lo hi : Int} {i : Nat} (h : i < (hi - lo).toNat) : (Zm3 lo hi)[i]? = some (.int (lo + i)) := by
 unfold Zm3
 rw [Yi, List.getElem?_range h]
 rfl
def Zna (ta : TA) : TE := λZ H Q => ta Z H λvs H1 => ∃ i j : Int, vs = [.int i, .int j] /\ ∀ p H2, H1 p = none -> Same H1 H2 -> H2 p = some (.rng i j) -> Q (.ref p) H2
def Zoc {a b : Expr} {ta : TA} {p pos : Pos} (hg : Gl X "range") (hm : X.mg "range" = none) (ha : PA X [a, b] ta) (hs : starEach [a, b] X.env = [(false, eval a X.env), (false, eval b X.env)] := by rfl) (hs2 : starEach [b] X.env = [(false, eval b X.env)] := by rfl) :
  PE X (.Call (.Name "range" p) [a, b] [] pos) (Zna ta) := by
 intro pins s Z H R I h
 refine Call_ (Jp I hg hm boot_range (Y9 (ZR (ha pos pins s Z H _ I h) λus s1 ⟨vs, H1, I1, r1, q1⟩ => ?_) (by rw [hs, hs2]) (by rw [hs2]; rfl)))
 obtain ⟨i, j, e, q⟩ := q1
 subst e
 obtain ⟨u, v, rfl, ⟨t, rfl⟩, t', rfl⟩ := ZhS r1
 have hf : H1 s1.heap.objs.size = none := I1.hok.fresh (Yd _)
 exact call_range_2 ⟨.ref s1.heap.objs.size, upd H1 s1.heap.objs.size (.rng i j), I1.laid (λb u e => Yf _ e) (Yd _) ⟨_, _, _, Yn _ rfl⟩, rfl, q _ _ hf (ZG hf _) upd_same⟩
def Zh6 (K : PySem.W.Frag) : List V -> Hp -> VK -> Prop := λxs H Q => ∃ p ys, xs = [.ref p] /\ (SqL K H p ys \/ SqT K H p ys \/ ∃ lo hi, H p = some (.rng lo hi) /\ -(2 ^ 62) <= lo /\ lo < 2 ^ 62 /\ -(2 ^ 62) <= hi /\ hi < 2 ^ 62 /\ ys = Zm3 lo hi /\ hi - lo <= 1000000) /\
 ∀ l H2, H l = none -> Same H H2 -> H2 l = some (.lst ys) -> Q (.ref l) H2
def ZhO (hc : X.calm = true) : CallR X (.type "list") (Zh6 X.K) := by
 intro pins s Z H xs us Q I r h
 obtain ⟨p, ys, rfl, hq, q⟩ := h
 have old : ∀ l, H l = none -> Q (.ref l) (upd H l (.lst ys)) := λl hl => q l _ hl (ZG hl _) upd_same
 rcases hq with hq | hq | ⟨lo, hi, hq, h1, h2, h3, h4, rfl, h5⟩
 ·exact Zcz pins s Z H [.ref p] us Q I r ⟨p, ys, rfl, .inl hq, old⟩
 ·exact Zcz pins s Z H [.ref p] us Q I r ⟨p, ys, rfl, .inr hq, old⟩
 ·obtain ⟨u, rfl, rx⟩ := Jq r
  cases rx
  obtain ⟨t, u, v, hr⟩ := I.hok p _ hq
  have hn : Builtin.Range.rangeSize lo hi 1 = ((hi - lo).toNat : Int) := by rw [rangeSize_one]; split <;> omega
  refine call_list_range (I.ok.hd hc) hr (small_one h1 h2 h3 h4) hn (by omega) λh' tk acc' c' kk hl ⟨hs, hacc⟩ => ?_
  have hf : H s.heap.objs.size = none := I.hok.fresh (Yd _)
  refine ⟨.ref s.heap.objs.size, _, I.laid kk (Nat.le_refl _) (show ObjOk X.prog X.w _ h' _ (.lst (Zm3 lo hi)) from ⟨?_, acc'.toList, c', Zdt ?_ λi x u e1 e2 => ?_, by simpa using hl⟩), rfl, old _ hf⟩
  ·rw [ZeM]; exact Yh (m := 1000000) (by omega) (by decide)
  ·rw [ZeM]; simpa using hs.symm
  ·have hi : i < (hi - lo).toNat := by rw [<- ZeM]; exact (Yj.mp e1).1
   rw [ZkQ hi] at e1
   cases e1
   obtain ⟨t, rfl⟩ := hacc i u (by simpa using e2)
   exact ⟨t, by rw [Int.mul_one]⟩
end
def J3 (X : Cx) (N : List Str) (sc : Scope) (cl : List (Str × Addr)) (fn : Str -> Bool) (s : Shared) (H : Hp) (fp : List Addr) : Cx where
 prog := X.prog
 w := X.w
 K := X.K
 mg := X.mg
 base := X.base
 A := X.A
 N := N
 s₀ := s
 H₀ := H
 env := compEnvC sc cl s.heap.objs.size X.env
 outer := X.stack
 stack := X.stack
 ex := fp
 calm := X.calm
 fn := fn
 pn := []
 xe := λ_ _ => False
abbrev blk (X : Cx) (N : List Str) (sc : Scope) (cl : List (Str × Addr)) (s : Shared) (H : Hp) (fp : List Addr) : Cx := J3 X N sc cl (λ_ => false) s H fp
def Jn (Z : St) (caps : List Nat) : St := caps.map λi => (Z[i]?).join
structure Blk (X : Cx) (ts : List Str) (caps : List Nat) (cs : List Str) (sc : Scope) (cl : List (Str × Addr)) : Prop where
 clos : closureFor sc X.env = pure cl
 kind : sc.kind = .function
 cell : ∀ x ∈ sc.names, x.2 ≠ .cell
 loc : ∀ x ∈ sc.names, x.2 = .local -> sc.names.lookup x.1 = some .local
 sub : ∀ x c, cl.lookup x = some c -> X.env.cells.lookup x = some c
 has : ∀ x, ((relabel sc X.env).names.lookup x = some .cell \/ (relabel sc X.env).names.lookup x = some .free) -> ∃ c, cl.lookup x = some c
 len : caps.length = cs.length
 cap : ∀ (k : Nat) i x, caps[k]? = some i -> cs[k]? = some x -> X.N[i]? = some x /\ (X.env.kindOf x = some .cell \/ X.env.kindOf x = some .free)
 capK : ∀ x ∈ cs, (relabel sc X.env).names.lookup x = some .cell \/ (relabel sc X.env).names.lookup x = some .free
section
variable {X : Cx} {pins : List (Addr × Obj)} {Z : St} {H : Hp} {s : Shared} {ts cs : List Str} {caps : List Nat} {sc : Scope} {cl : List (Str × Addr)} {fp : List Addr}
theorem Zm0 (B : Blk X ts caps cs sc cl) (I : Inv X pins Z H s) (hf : ∀ b ∈ fp, Jv X pins H b) (hlt : ∀ b ∈ fp, b < s.heap.objs.size) : (blk X (ts ++ cs) sc cl s H fp).Ok where
 mod := I.ok.mod
 kind := B.kind
 glob := I.ok.glob
 blt := I.ok.blt
 above := Yd _
 inj := λx y c h1 h2 => I.ok.inj x y c (B.sub x c h1) (B.sub y c h2)
 has := λx h => B.has x h
 cab := λx c h _ => by cases h
 hd := I.ok.hd
 frames := I.ok.frames
 stk := .inl rfl
 exf := λb hb => ⟨Yl (hlt b hb), λx c h => (hf b hb).2.2.2.2.1 x c (B.sub x c h)⟩
 bs := I.bs
 bsz := Yh I.ok.bsz I.sz
 noex := λb o e hb => by
  rcases (hf b hb).2.2.2.1 with z | z
  ·exact I.ok.noex b o e z
  ·exact YF _ (Yo (Ye (I.ok.bs b o e).1) z)
 exfs := λb hb z => by
  rcases Ym.mp (I.stkSub b z) with e | e
  ·exact (hf b hb).2.1 e
  ·exact (hf b hb).2.2.1 e
 funs := I.stack
 frf := I.stkFree
def ZnX (B : Blk X ts caps cs sc cl) (I : Inv X pins Z H s) (hf : ∀ b ∈ fp, Jv X pins H b) (hlt : ∀ b ∈ fp, b < s.heap.objs.size) {h₁ : Heap} {t' : Nat} (hn : h₁.Ns s.heap.objs.size λ_ => none) (kk : ∀ b o, s.heap.get? b = some o -> h₁.get? b = some o) :
  Inv (blk X (ts ++ cs) sc cl s H fp) [] (List.replicate ts.length none ++ Jn Z caps) H { s with heap := h₁, toks := t' } := by
 have hfr : H s.heap.objs.size = none := I.hok.fresh (Yd _)
 refine ⟨Zm0 B I hf hlt, rfl, I.bare, Un.kept kk, ⟨_, hn, λi x v h1 h2 h3 => ?_⟩, λx c e => ?_, hfr, λx c e => I.freeC x c (B.sub x c e), λp hp => absurd (show p ∈ ([] : List (Addr × Obj)) from hp) (by simp), I.hok.kept kk, ?_⟩
 ·have hi : ¬ i < ts.length := λhi => by
   rw [List.getElem?_append_left (by simpa using hi), List.getElem?_replicate, if_pos hi] at h2
   cases h2
  have h1' : (ts ++ cs)[i]? = some x := h1
  rw [YX (by omega)] at h1'
  rw [List.getElem?_append_right (by simp; omega), List.length_replicate] at h2
  unfold Jn at h2
  rw [Yi] at h2
  cases e : caps[i - ts.length]? with
  | none => rw [e] at h2; cases h2
  | some j =>
   rw [e] at h2
   have h2' : (Z[j]?).join = some v := by simpa using h2
   have h2'' : Z[j]? = some (some v) := by
    cases q : Z[j]? with
    | none => rw [q] at h2'; cases h2'
    | some o => rw [q] at h2'; cases h2'; rfl
   obtain ⟨hN, hk⟩ := B.cap _ _ _ e h1'
   obtain ⟨m, hm, hl⟩ := I.loc
   obtain ⟨u, r, l⟩ := hl j x v hN h2'' (.inr hk)
   refine ⟨u, r, ?_⟩
   rcases l with ⟨l, _⟩ | ⟨_, c, hc, ⟨o, ho, hd⟩⟩
   ·rcases hk with z | z <;> (rw [z] at l; cases l)
   ·have ck := B.capK x (Yq h1')
    obtain ⟨c', hc'⟩ := B.has x ck
    have := B.sub x c' hc'
    rw [hc] at this
    cases this
    exact .inr ⟨ck, c, hc', o, kk c o ho, hd⟩
 ·obtain ⟨v, o, ho, hd⟩ := I.cell x c (B.sub x c e)
  exact ⟨v, o, kk c o ho, hd⟩
 ·show (List.replicate ts.length (none : Option V) ++ Jn Z caps).length = (ts ++ cs).length
  rw [YS, YS, List.length_replicate]
  unfold Jn
  rw [Yg, B.len]
def Zi0 (ifs : List Expr) (env : Env) : Sem Bool := forIn ifs true λc r => if r = true then do let ok <- isTrue c env (eval c env); pure (ForInStep.yield ok) else pure (ForInStep.yield r)
def PTs (X : Cx) (ifs : List Expr) (t : TT) : Prop :=
 ∀ (pins : List (Addr × Obj)) (s : Shared) (Z : St) (H : Hp) (Q : Bool -> Hp -> Prop), Inv X pins Z H s -> t Z H Q -> wpAny (model X.prog X.w) X.A (Zi0 ifs X.env) (TP X pins Z Q) X.xe s
def Zmw : TT := λ_ H Q => Q true H
def ZiK : PTs X [] Zmw := λ_ _ _ H _ I h => wpAny_tests_nil ⟨H, I, h⟩
def Znz {c : Expr} {t : TT} (h : PT X c t) : PTs X [c] t := λpins s Z H Q I hq => wpAny_tests_one (h pins s Z H Q I hq)
def ZjG {prog : Program} {w : World} {A : Around} {R : Result -> Shared -> Prop} {s : Shared} {elt target iter : Expr} {ifs : List Expr} {scope : Scope} {pos : Pos} {it acc : Value} {env : Env} (I : Nat -> Shared -> Prop)
  (turn : ∀ n s, I n s -> wpAny (model prog w) A (pyNext it) (λr s₁ => match r with
   | none => R (.ok .next) s₁
   | some v => wpAny (model prog w) A (letOwnedTupleGo target it v) (λ_ s₁' => wpAny (model prog w) A (assign target env v) (λ_ s₂ => wpAny (model prog w) A (Zi0 ifs env) (λok s₃ =>
     if ok = true then wpAny (model prog w) A (eval elt env) (λx s₄ =>
      wpAny (model prog w) A (call (.builtin "list.append") [acc, x]) (λ_ s₅ => ∃ m, m < n /\ I m s₅) (notedBy (model prog w) A env λe s' => R (.error e) s') s₄) (notedBy (model prog w) A env λe s' => R (.error e) s') s₃
     else ∃ m, m < n /\ I m s₃) (notedBy (model prog w) A env λe s' => R (.error e) s') s₂) (notedBy (model prog w) A env λe s' => R (.error e) s') s₁') (notedBy (model prog w) A env λe s' => R (.error e) s') s₁) (notedBy (model prog w) A env λe s' => R (.error e) s') s)
  (n : Nat) (h : I n s) : codeAny (model prog w) A (.compLoop (.ListComp elt [⟨target, iter, ifs, 0⟩] scope pos) 0 it acc env) R s := by
 refine codeAny_loop rfl I (λn s hI => ?_) n h
 show wpAny _ _ ((compTurn (.ListComp elt [⟨target, iter, ifs, 0⟩] scope pos) 0 it acc env).onRaise (λx => do noteFrame x env; theTreesLotGoes x)) _ _ s
 refine wpAny_noted ?_
 rw [compTurn_list]
 refine Ya (Yah (Ya (Yp (turn n s hI) (λr s₁ h₁ => ?_) λ_ _ h' => h')))
 cases r with
 | none => exact Yb h₁
 | some v =>
  refine Ya (Yp h₁ (λ_ s₁' h₁' => ?_) λ_ _ h' => h')
  refine Ya (Yp h₁' (λ_ s₂ h₂ => Ya (Yp h₂ (λok s₃ h₃ => ?_) λ_ _ h' => h')) λ_ _ h' => h')
  cases ok with
  | false => exact Yb ⟨rfl, h₃⟩
  | true => exact Ya (Ya (Yp h₃ (λx s₄ h₄ => Ya (Yp h₄ (λ_ s₅ h₅ => Yb (Yb ⟨rfl, h₅⟩)) λ_ _ h' => h')) λ_ _ h' => h'))
def ZfC (nt : Nat) (cp : St) (J : It) (g : TG) (tt : TT) (te : TE) (H1 : Hp) (Q : VK) : Prop := ∀ acc H2, H1 acc = none -> Same H1 H2 -> H2 acc = some (.lst []) ->
 ∃ W : Nat -> Nat -> List V -> Hp -> Prop, (∃ m, W 0 m [] H2) /\ ∀ i m ys H, W i m ys H -> H acc = some (.lst ys) /\ ((J.stop i H /\ Q (.ref acc) H) \/ (J.go i H /\ ys.length < 1000000 /\ ∃ N : List V -> Hp -> Prop, (∀ ys' H', N ys' H' -> ∃ m', m' < m /\ W (i + 1) m' ys' H') /\
  ∀ os x H', os.length = nt -> J.yld i H x H' -> g x (os ++ cp) H' λτ H3 => ∃ os', os'.length = nt /\ τ = os' ++ cp /\ tt τ H3 λb H4 => if b = true then te τ H4 λv H5 => H5 acc = some (.lst ys) /\ N (ys ++ [v]) (upd H5 acc (.lst (ys ++ [v]))) else N ys H4))
def Zod (nt : Nat) (cp : St) (J : It) (g : TG) (te : TE) (H1 : Hp) (Q : VK) : Prop := ZfC nt cp J g Zmw te H1 Q
def ZcD (nt : Nat) (caps : List Nat) (wi : TI) (g : TG) (tt : TT) (te : TE) : TE := λZ H Q => wi Z H λJ H1 => ZfC nt (Jn Z caps) J g tt te H1 Q
def JS (nt : Nat) (caps : List Nat) (wi : TI) (g : TG) (te : TE) : TE := λZ H Q => wi Z H λJ H1 => Zod nt (Jn Z caps) J g te H1 Q
def Zf9 (X : Cx) (pins : List (Addr × Obj)) (Z : St) (Q : VK) (acc : Value) (C : Addr) (r : Result) (s' : Shared) : Prop :=
 r = .ok .next /\ ∃ a H', acc = .ref a /\ Inv X pins Z H' s' /\ Jv X pins H' C /\ (∃ m, s'.heap.Ns C m) /\ Q (.ref a) H'
def ZnM {elt target iter : Expr} {ifs : List Expr} {pos : Pos} {g : TG} {tt : TT} {te : TE} {it acc : Addr} {tn : Nat -> Heap -> Prop} {J : It} {Q : VK} {cells : List (Str × Addr)} {fn : Str -> Bool} {s3 s4 : Shared} {H3 : Hp} {W : Nat -> Nat -> List V -> Hp -> Prop} {m0 : Nat} (hc : X.calm = true)
  (hg : PG (J3 X (ts ++ cs) sc cells fn s3 H3 fp) target g) (ht : PTs (J3 X (ts ++ cs) sc cells fn s3 H3 fp) ifs tt) (he : PE (J3 X (ts ++ cs) sc cells fn s3 H3 fp) elt te) (ok : (J3 X (ts ++ cs) sc cells fn s3 H3 fp).Ok)
  (I3 : Inv X pins Z H3 s3) (f3 : ∀ b ∈ fp, Jv X pins H3 b) (hlt3 : ∀ b ∈ fp, b < s3.heap.objs.size) (T : Turn X.prog X.w X.K target J fp it tn) (J4 : Inv (J3 X (ts ++ cs) sc cells fn s3 H3 fp) [] (List.replicate ts.length none ++ Jn Z caps) H3 s4) (st4 : tn 0 s4.heap) (w0 : W 0 m0 [] H3)
  (step : ∀ i m ys H, W i m ys H -> H acc = some (.lst ys) /\ ((J.stop i H /\ Q (.ref acc) H) \/ (J.go i H /\ ys.length < 1000000 /\ ∃ N : List V -> Hp -> Prop, (∀ ys' H', N ys' H' -> ∃ m', m' < m /\ W (i + 1) m' ys' H') /\
   ∀ os x H', os.length = ts.length -> J.yld i H x H' -> g x (os ++ Jn Z caps) H' λτ H3 => ∃ os', os'.length = ts.length /\ τ = os' ++ Jn Z caps /\ tt τ H3 λb H4 => if b = true then te τ H4 λv H5 => H5 acc = some (.lst ys) /\ N (ys ++ [v]) (upd H5 acc (.lst (ys ++ [v]))) else N ys H4))) :
  codeAny (model X.prog X.w) X.A (.compLoop (.ListComp elt [⟨target, iter, ifs, 0⟩] sc pos) 0 (.ref it) (.ref acc) (compEnvC sc cells s3.heap.objs.size X.env)) (Zf9 X pins Z Q (.ref acc) s3.heap.objs.size) s4 := by
 have stat : ∀ {H' : Hp}, (∀ b ∈ fp, H' b = none) -> ∀ b ∈ fp, Jv (J3 X (ts ++ cs) sc cells fn s3 H3 fp) [] H' b := λhn b hb =>
  ⟨hn b hb, Nat.ne_of_lt (hlt3 b hb), ok.exfs b hb, .inl hb, ok.exf b hb |>.2, λp hp => absurd (show p ∈ ([] : List (Addr × Obj)) from hp) (by simp)⟩
 refine ZjG (λn s' => ∃ i os ys H', os.length = ts.length /\ Inv (J3 X (ts ++ cs) sc cells fn s3 H3 fp) [] (os ++ Jn Z caps) H' s' /\ tn i s'.heap /\ (∀ b ∈ fp, H' b = none) /\ W i n ys H') ?_ m0
  ⟨0, List.replicate ts.length none, [], _, by simp, J4, st4, λb hb => (f3 b hb).1, w0⟩
 rintro n s5 ⟨i, os, ys, H5, ol, J5, st5, fr5, w5⟩
 obtain ⟨ha, hcase⟩ := step i n ys H5 w5
 rcases hcase with ⟨stop, q⟩ | ⟨go, hys, N, hN, turn⟩
 ·refine ZR (T.done (J3 X (ts ++ cs) sc cells fn s3 H3 fp) rfl rfl rfl hc i [] s5 _ H5 _ J5 (stat fr5) st5 stop) λr s6 ⟨hr, J6⟩ => ?_
  subst hr
  have hf6 : H5 s3.heap.objs.size = none := J6.free
  obtain ⟨m6, hm6, _⟩ := J6.loc
  exact ⟨rfl, _, H5, rfl, I3.call' (J6.os) J6.base J6.hok J6.bare (λb hb => ⟨(f3 b hb).2.2.2.1, (f3 b hb).2.1, (f3 b hb).2.2.2.2.1, (f3 b hb).2.2.2.2.2⟩), I3.fpOk (Yd _) hf6, ⟨m6, hm6⟩, q⟩
 ·refine ZR (T.item (J3 X (ts ++ cs) sc cells fn s3 H3 fp) rfl rfl rfl hc i [] s5 _ H5 _ J5 (stat fr5) st5 go) λr s6 ⟨u, hr, h6⟩ => ?_
  subst hr
  refine ZR h6 λ_ s7 ⟨x, H7, J7, r7, y7, st7, fr7⟩ => ?_
  have J7' := J7.pinned (stat fr7) (T.obj _ _ st7)
  refine Yp (hg _ s7 _ H7 x u _ J7' r7 (turn os x H7 ol y7)) (λ_ s8 ⟨Z8, H8, J8, os', ol', e8, q8⟩ => ?_) λ_ _ z => z.elim
  subst e8
  refine Yp (ht _ s8 _ H8 _ J8 q8) (λb s8' ⟨H8', J8', q8'⟩ => ?_) λ_ _ z => z.elim
  cases b with
  | false =>
   rw [if_neg (by decide)] at q8' ⊢
   obtain ⟨m', hm', w9⟩ := hN _ _ q8'
   refine ⟨m', hm', i + 1, os', ys, _, ol', J8'.unpinned, T.keep _ _ _ st7 λb hb o e => (J8'.pin (b, o) (Yx _ (Yx _ (ZaF hb e)))).1, λb hb => ?_, w9⟩
   obtain ⟨o, e, d⟩ := T.obj _ _ st7 b hb
   exact (J8'.pin (b, o) (Yx _ (Yx _ (ZaF hb e)))).2.1
  | true =>
   rw [if_pos rfl] at q8' ⊢
   refine Yp (he _ s8' _ H8' _ J8' q8') (λv s9 ⟨v9, H9, J9, r9, ha9, n9⟩ => ?_) λ_ _ z => z.elim
   refine Yp (Zfi (X := J3 X (ts ++ cs) sc cells fn s3 H3 fp) _ s9 _ H9 (.ref acc) [v9] (.ref acc) [v] (λ_ H' => H' = upd H9 acc (.lst (ys ++ [v9]))) J9 rfl (.cons r9 .nil) ⟨_, ys, v9, rfl, rfl, ha9, ZrO hys, rfl⟩) (λ_ s10 ⟨_, H10, J10, _, e10⟩ => ?_) λ_ _ z => z.elim
   subst e10
   obtain ⟨m', hm', w9⟩ := hN _ _ n9
   refine ⟨m', hm', i + 1, os', ys ++ [v9], _, ol', J10.unpinned, T.keep _ _ _ st7 λb hb o e => (J10.pin (b, o) (Yx _ (Yx _ (ZaF hb e)))).1, λb hb => ?_, w9⟩
   obtain ⟨o, e, d⟩ := T.obj _ _ st7 b hb
   exact (J10.pin (b, o) (Yx _ (Yx _ (ZaF hb e)))).2.1
def ZiA {elt target iter : Expr} {ifs : List Expr} {pos : Pos} {g : TG} {tt : TT} {te : TE} {it : Addr} {tn : Nat -> Heap -> Prop} {J : It} {Q : VK} {E : Value -> Shared -> Prop} (B : Blk X ts caps cs sc cl) (hc : X.calm = true)
  (hg : ∀ s H fp, PG (blk X (ts ++ cs) sc cl s H fp) target g) (ht : ∀ s H fp, PTs (blk X (ts ++ cs) sc cl s H fp) ifs tt) (he : ∀ s H fp, PE (blk X (ts ++ cs) sc cl s H fp) elt te)
  (I2 : Inv X pins Z H s) (T : Turn X.prog X.w X.K target J fp it tn) (st2 : tn 0 s.heap) (f2 : ∀ b ∈ fp, Jv X pins H b) (h : ZfC ts.length (Jn Z caps) J g tt te H Q) :
  wpAny (model X.prog X.w) X.A (newList []) (λacc s₃ => wpAny (model X.prog X.w) X.A (newFunctionEnv sc X.env.globals cl [] X.env.qual none .none (some X.env)) (λcenv s₄ =>
   codeAny (model X.prog X.w) X.A (.compStart (.ListComp elt [⟨target, iter, ifs, 0⟩] sc pos) 0 (.ref it) acc { cenv with scope := relabel sc X.env }) (Zf9 X pins Z Q acc cenv.locals) s₄) E s₃) E s := by
 refine wpAny_newObj_type (wpAny_newFunctionEnv B.cell (by intro y hy; simp at hy) (λh₁ hns₁ hsb₁ => ?_) B.kind)
 dsimp only at hns₁ hsb₁ ⊢
 have hnew : H s.heap.objs.size = none := I2.hok.fresh (Yd _)
 have I3 : Inv X pins Z (upd H s.heap.objs.size (.lst [])) { s with heap := s.heap.push { cls := .type "list", dict := none, data := .seq ([] : List Value).toArray } } :=
  I2.laid (t' := s.toks) (λb u e => Yf _ e) (Yd _) ⟨YA _, [], 0, .nil, Yn _ rfl⟩
 obtain ⟨W, ⟨m0, w0⟩, step⟩ := h s.heap.objs.size _ hnew (ZG hnew _) upd_same
 have old2 : ∀ b o, s.heap.get? b = some o -> (s.heap.push { cls := .type "list", dict := none, data := .seq ([] : List Value).toArray }).get? b = some o := λb o e => Yf _ e
 generalize hs3 : ({ s with heap := s.heap.push { cls := .type "list", dict := none, data := .seq ([] : List Value).toArray } } : Shared) = s3 at I3
 have hh : s.heap.push { cls := .type "list", dict := none, data := .seq ([] : List Value).toArray } = s3.heap := by rw [<- hs3]
 rw [hh] at hns₁ hsb₁ old2
 have fpO : ∀ b ∈ fp, ∃ o, s.heap.get? b = some o := λb hb => let ⟨o, e, _⟩ := T.obj 0 _ st2 b hb; ⟨o, e⟩
 have f3 : ∀ b ∈ fp, Jv X pins (upd H s.heap.objs.size (.lst [])) b := λb hb => ⟨by
  obtain ⟨o, e⟩ := fpO b hb
  rw [Ze (Yl (Ye e))]; exact (f2 b hb).1, (f2 b hb).2⟩
 have hlt3 : ∀ b ∈ fp, b < s3.heap.objs.size := λb hb => let ⟨o, e⟩ := fpO b hb; Ye (old2 b o e)
 have kk : ∀ b o, s3.heap.get? b = some o -> h₁.get? b = some o := λb o e => hsb₁.extBut b o (Yl (Ye e)) (Yf _ e)
 have J4 := ZnX (t' := s.toks + ([] : List (Str × Value)).length) B I3 f3 hlt3 (h₁ := h₁) hns₁ kk
 have st4 : tn 0 h₁ := T.keep _ _ _ st2 λb hb o e => kk b o (old2 b o e)
 have key : ∀ s4 : Shared, s4 = { s3 with heap := h₁, toks := s.toks + ([] : List (Str × Value)).length } ->
   codeAny (model X.prog X.w) X.A (.compLoop (.ListComp elt [⟨target, iter, ifs, 0⟩] sc pos) 0 (.ref it) (.ref s.heap.objs.size) (compEnvC sc cl s3.heap.objs.size X.env)) (Zf9 X pins Z Q (.ref s.heap.objs.size) s3.heap.objs.size) s4 := by
  rintro s4 rfl
  exact ZnM hc (hg _ _ _) (ht _ _ _) (he _ _ _) (Zm0 B I3 f3 hlt3) I3 f3 hlt3 T J4 st4 w0 step
 have key2 := key { s with heap := h₁, toks := s.toks + ([] : List (Str × Value)).length } (by rw [<- hs3])
 rw [hh]
 exact codeAny_compStart_list key2 (T.self _ 0 _ _ _ st4 key2)
def Zg6 {elt target iter : Expr} {ifs : List Expr} {pos : Pos} {wi : TI} {g : TG} {tt : TT} {te : TE} (B : Blk X ts caps cs sc cl) (hi : PI X target iter wi)
  (hg : ∀ s H fp, PG (blk X (ts ++ cs) sc cl s H fp) target g) (ht : ∀ s H fp, PTs (blk X (ts ++ cs) sc cl s H fp) ifs tt) (he : ∀ s H fp, PE (blk X (ts ++ cs) sc cl s H fp) elt te) (hc : X.calm = true := by rfl) (hs : ∀ x, foldedSetIterable iter X.env x = pure x := by intro _; rfl) :
  PE X (.ListComp elt [⟨target, iter, ifs, 0⟩] sc pos) (ZcD ts.length caps wi g tt te) := by
 intro pins s Z H Q I h
 rw [eval_ListComp]
 refine wpAny_comprehension_free (use := none) rfl hs B.clos B.kind B.loc (ZR (hi pins s Z H _ I h) λv s1 h1 => ZR h1 λitv s2 h2 => ?_)
 obtain ⟨it, fp, tn, J, H2, e, I2, T, st2, f2, hq⟩ := h2
 subst e
 refine ZR (ZiA B hc hg ht he I2 T st2 f2 hq) λacc s3 h3 => ZR h3 λcenv s4 h4 => YN h4 λr s' hp => ?_
 obtain ⟨rfl, a, H', rfl, I', fC, ⟨m, hm⟩, q⟩ := hp
 exact ⟨m, hm, λh' sb => ⟨.ref a, H', I'.turned (t' := s'.toks) (λb o hb e => sb.extBut b o hb e) fC.1 fC.2.1 fC.2.2.2.1 fC.2.2.2.2.1 fC.2.2.2.2.2, rfl, q⟩⟩
def ZdN {elt target iter : Expr} {ifs : List Expr} {x : Str} {px pos spos : Pos} {wi : TI} {g : TG} {tt : TT} {te : TE} (i : Nat) (B : Blk X ts caps cs sc cl) (hi : PI X target iter wi)
  (hg : ∀ s H fp, PG (blk X (ts ++ cs) sc cl s H fp) target g) (ht : ∀ s H fp, PTs (blk X (ts ++ cs) sc cl s H fp) ifs tt) (he : ∀ s H fp, PE (blk X (ts ++ cs) sc cl s H fp) elt te) (hx : PG X (.Name x px) (Jy i))
  (hsw : swapsWith (.ListComp elt [⟨target, iter, ifs, 0⟩] sc pos) (some (.Name x px)) spos.line X.env = pure true) (hc : X.calm = true := by rfl) (hs : ∀ x, foldedSetIterable iter X.env x = pure x := by intro _; rfl) :
  PS X (.Assign [.Name x px] (.ListComp elt [⟨target, iter, ifs, 0⟩] sc pos) spos) (Zku (ZcD ts.length caps wi g tt te) (Jy i)) := by
 intro pins s Z H D I h
 rw [exec_Assign_Name_used _ _ _ _ hsw]
 refine Ya (Yah (Ya ?_))
 show wpAny _ X.A (do let _ <- comprehension (.ListComp elt [⟨target, iter, ifs, 0⟩] sc pos) sc X.env _ (newList []) false (eval iter X.env) (some (assign (.Name x px) X.env))) _ _ s
 refine Ya (Yp (wpAny_comprehension_free (use := some (assign (.Name x px) X.env)) (Q := λ_ s' => SP X pins D .next s') rfl hs B.clos B.kind B.loc
  (ZR (hi pins s Z H _ I h) λv s1 h1 => ZR h1 λitv s2 h2 => ?_)) (λ_ s' hq => Yb (Yb hq)) λ_ _ e => e)
 obtain ⟨it, fp, tn, J, H2, e, I2, T, st2, f2, hq⟩ := h2
 subst e
 refine ZR (ZiA B hc hg ht he I2 T st2 f2 hq) λacc s3 h3 => ZR h3 λcenv s4 h4 => YN h4 λr s' hp => ?_
 obtain ⟨rfl, a, H', rfl, I', fC, ⟨m, hm⟩, q⟩ := hp
 obtain ⟨oC, esC, epC, hoC, hdC, rC⟩ := id hm
 have Ip : Inv X (pins ++ [(cenv.locals, oC)]) Z H' s' := I'.pins_of λp hp => by
  rcases Yu.mp hp with z | z
  ·exact I'.pin p (Yx _ z)
  ·have z : p = (cenv.locals, oC) := by simpa using z
   subst z
   exact ⟨hoC, fC.1, fC.2.1, fC.2.2.1, λv z => by rw [show oC.data = _ from hdC] at z; cases z⟩
 refine ZR (hx _ s' Z H' (.ref a) (.ref a) _ Ip rfl q) λ_ s5 ⟨Z5, H5, I5, q5⟩ => ?_
 have pC := I5.pin (cenv.locals, oC) (List.mem_append_right _ (List.mem_append_right _ (by simp)))
 refine ⟨m, ⟨oC, esC, epC, pC.1, hdC, rC⟩, λh' sb => ⟨Z5, H5, I5.unpinned.turned (t' := s5.toks) (λb o hb e => sb.extBut b o hb e) pC.2.1 fC.2.1 fC.2.2.2.1 fC.2.2.2.2.1 fC.2.2.2.2.2, q5⟩⟩
def Zng {elt target iter : Expr} {pos : Pos} {wi : TI} {g : TG} {te : TE} (B : Blk X ts caps cs sc cl) (hi : PI X target iter wi)
  (hg : ∀ s H fp, PG (blk X (ts ++ cs) sc cl s H fp) target g) (he : ∀ s H fp, PE (blk X (ts ++ cs) sc cl s H fp) elt te) (hc : X.calm = true := by rfl) (hs : ∀ x, foldedSetIterable iter X.env x = pure x := by intro _; rfl) :
  PE X (.ListComp elt [⟨target, iter, [], 0⟩] sc pos) (JS ts.length caps wi g te) := Zg6 B hi hg (λ_ _ _ => ZiK) he hc hs
def ZhP {elt target iter : Expr} {x : Str} {px pos spos : Pos} {wi : TI} {g : TG} {te : TE} (i : Nat) (B : Blk X ts caps cs sc cl) (hi : PI X target iter wi)
  (hg : ∀ s H fp, PG (blk X (ts ++ cs) sc cl s H fp) target g) (he : ∀ s H fp, PE (blk X (ts ++ cs) sc cl s H fp) elt te) (hx : PG X (.Name x px) (Jy i))
  (hsw : swapsWith (.ListComp elt [⟨target, iter, [], 0⟩] sc pos) (some (.Name x px)) spos.line X.env = pure true) (hc : X.calm = true := by rfl) (hs : ∀ x, foldedSetIterable iter X.env x = pure x := by intro _; rfl) :
  PS X (.Assign [.Name x px] (.ListComp elt [⟨target, iter, [], 0⟩] sc pos) spos) (Zku (JS ts.length caps wi g te) (Jy i)) := ZdN i B hi hg (λ_ _ _ => ZiK) he hx hsw hc hs
end
section
variable {X : Cx} {tg e elt it c d : Expr} {te : TE} {ta : TA} {wi : TI} {g : TG} {pos p : Pos} {ts cs : List Str} {caps : List Nat} {sc : Scope} {cl : List (Str × Addr)}
def ZmN {es : List Expr} {x1} {pos' : Pos} (hg : Gl X "enumerate") (hm : X.mg "enumerate" = none) (ha : QA X [c] ta) (hp : Zn c = true := by rfl) : QI X (.Tuple es x1 pos') (.Call (.Name "enumerate" p) [c] [] pos) (Zoh X.K ta) := ⟨ZnG hg hm ha.h (Zi hp)⟩
def ZpW (hg : Gl X "range") (hm : X.mg "range" = none) (ha : QA X [c, d] ta) (hp : Zn c = true := by rfl) (hq : Zn d = true := by rfl) : QE X (.Call (.Name "range" p) [c, d] [] pos) (Zna ta) := ⟨Zoc hg hm ha.h (by rw [Zi hp, Zi hq]; rfl) (Zi hq)⟩
def ZfD (hg : Gl X "list") (hm : X.mg "list" = none) (ha : QA X [c] ta) (hp : Zn c = true := by rfl) (hc : X.calm = true := by rfl) : QE X (.Call (.Name "list" p) [c] [] pos) (tCB (Zh6 X.K) ta) := ⟨Zbo (ZhO hc) hg hm (by decide +kernel) ha.h (by decide) (by decide) (Zi hp) rfl⟩
def Zq8 (hg : Gl X "min") (hm : X.mg "min" = none) (ha : QA X [c, d] ta) (hp : Zn c = true := by rfl) (hq : Zn d = true := by rfl) (hc : X.calm = true := by rfl) :
  QE X (.Call (.Name "min" p) [c, d] [] pos) (tCB (λxs H Q => ∃ i j, xs = [.int i, .int j] /\ Q (.int (if j < i then j else i)) H) ta) := ⟨ZaO (Zj4 hc) hg hm (by decide +kernel) ha.h (by decide) (by decide) (Zi hp) (by rw [Zi hq]; rfl)⟩
def Zlu {o i : Expr} {to ti : TE} (ho : QE X o to) (hi : QE X i ti) (ha : ∀ v, assign (.Subscript o i pos) X.env v = (do
      let ov <- holding [v] (eval o X.env)
      let iv <- holding [v, ov] (eval i X.env)
      standAt pos
      holding [v, ov, iv] (setItem ov iv v)
      release [v, ov, iv] []) := by intro _; rfl) : QG X (.Subscript o i pos) (ZqT to ti Zk1) := ⟨ZpJ ho.h hi.h Zme ha⟩
def ZrQ (ts : List Str) (hk : sc.kind = .function := by rfl) (h : (sc.names.all λx => x.2 != .free && x.2 != .cell && (x.2 != .local || sc.names.lookup x.1 == some .local)) = true := by decide +kernel) : Blk X ts [] [] sc [] := by
 have hh : ∀ x ∈ sc.names, x.2 ≠ .free /\ x.2 ≠ .cell /\ (x.2 = .local -> sc.names.lookup x.1 = some .local) := λx hx => by
  have q := List.all_eq_true.mp h x hx
  simp only [Bool.and_eq_true, bne_iff_ne, ne_eq, Bool.or_eq_true, beq_iff_eq] at q
  exact ⟨q.1.1, q.1.2, λz => q.2.elim (λy => absurd z y) id⟩
 have rl : relabel sc X.env = sc := by
  unfold relabel
  rw [map_eq_self λx hx => by
   have q : (x.2 == NameKind.free) = false := by simpa using (hh x hx).1
   obtain ⟨n, k⟩ := x
   simp only at q
   simp [q]]
 refine ⟨closureFor_none λx hx => (hh x hx).1, hk, λx hx => (hh x hx).2.1, λx hx => (hh x hx).2.2, λx c e => by simp at e, λx e => ?_, rfl, λk i x e => by simp at e, λx e => by simp at e⟩
 rw [rl] at e
 rcases e with e | e
 ·exact absurd rfl (hh _ (Vc e)).2.1
 ·exact absurd rfl (hh _ (Vc e)).1
def Zew (cells : List (Str × Addr)) : List (Str × NameKind) -> List (Str × Addr) -> Option (List (Str × Addr))
 | [], acc => some acc
 | (n, k) :: r, acc => if k == .free then (match cells.lookup n with | some c => Zew cells r ((n, c) :: acc) | none => none) else Zew cells r acc
def Zek {env : Env} : ∀ {ns : List (Str × NameKind)} {acc cl : List (Str × Addr)}, Zew env.cells ns acc = some cl ->
  (forIn ns acc λx r => (match x with | (name, kind) => if (kind == NameKind.free) = true then do let c <- PySem.cellOf env name; pure (ForInStep.yield ((name, c) :: r)) else pure (ForInStep.yield r) : Sem (ForInStep (List (Str × Addr))))) = (pure cl : Sem _)
 | [], acc, cl, h => by cases h; rfl
 | (n, k) :: r, acc, cl, h => by
  unfold Zew at h
  rw [List.forIn_cons]
  dsimp only
  split at h
  ·rename_i hk
   rw [if_pos hk]
   split at h
   ·rename_i c hc
    have e : PySem.cellOf env n = pure c := by unfold PySem.cellOf; rw [hc]
    rw [e]
    exact Zek h
   ·cases h
  ·rename_i hk
   rw [if_neg hk]
   exact Zek h
def ZdG {cells : List (Str × Addr)} : ∀ {ns : List (Str × NameKind)} {acc cl : List (Str × Addr)}, Zew cells ns acc = some cl -> (∀ p ∈ acc, cells.lookup p.1 = some p.2) -> ∀ p ∈ cl, cells.lookup p.1 = some p.2
 | [], acc, cl, h, ha => by cases h; exact ha
 | (n, k) :: r, acc, cl, h, ha => by
  unfold Zew at h
  split at h
  ·split at h
   ·rename_i c hc
    exact ZdG h λp hp => by
     rcases Ym.mp hp with rfl | hp
     ·exact hc
     ·exact ha p hp
   ·cases h
  ·exact ZdG h ha
def ZcX {cells : List (Str × Addr)} {x : Str} : ∀ {ns : List (Str × NameKind)} {acc cl : List (Str × Addr)}, Zew cells ns acc = some cl -> ((x, NameKind.free) ∈ ns \/ ∃ c, (x, c) ∈ acc) -> ∃ c, (x, c) ∈ cl
 | [], acc, cl, h, ha => by
  cases h
  rcases ha with z | z
  ·cases z
  ·exact z
 | (n, k) :: r, acc, cl, h, ha => by
  unfold Zew at h
  split at h
  ·split at h
   ·rename_i c hc
    refine ZcX h ?_
    rcases ha with z | ⟨c', z⟩
    ·rcases Ym.mp z with e | z
     ·cases e; exact .inr ⟨c, Vd⟩
     ·exact .inl z
    ·exact .inr ⟨c', YZ _ z⟩
   ·cases h
  ·rename_i hk
   refine ZcX h ?_
   rcases ha with z | z
   ·rcases Ym.mp z with e | z
    ·cases e; exact absurd rfl hk
    ·exact .inl z
   ·exact .inr z
def Zb6 {x : Str} {c : Addr} : ∀ {l : List (Str × Addr)}, (x, c) ∈ l -> ∃ c', l.lookup x = some c'
 | [], h => by cases h
 | (n, d) :: r, h => by
  rw [List.lookup_cons]
  cases e : x == n with
  | true => exact ⟨d, rfl⟩
  | false =>
   rcases Ym.mp h with z | z
   ·cases z; simp at e
   ·exact Zb6 z
def Zb7 {env : Env} {x : Str} {k : NameKind} (h : (relabel sc env).names.lookup x = some k) : (x, k) ∈ sc.names \/ (k = .cell /\ (x, NameKind.free) ∈ sc.names) := by
 have m := Vc h
 unfold relabel at m
 obtain ⟨⟨n, k'⟩, hm, e⟩ := Yk.mp m
 dsimp only at e
 split at e
 ·rename_i hc
  cases e
  simp only [Bool.and_eq_true, beq_iff_eq] at hc
  rw [hc.1.1] at hm
  exact .inr ⟨rfl, hm⟩
 ·cases e
  exact .inl hm
theorem Zbi {env : Env} {x : Str} : ∀ {ns : List (Str × NameKind)}, ns.lookup x = some NameKind.free ->
  (ns.map λ(n, k) => if (k == NameKind.free && env.scope.kind == .function && env.kindOf n == some .cell) then (n, NameKind.cell) else (n, k)).lookup x = some .cell \/
  (ns.map λ(n, k) => if (k == NameKind.free && env.scope.kind == .function && env.kindOf n == some .cell) then (n, NameKind.cell) else (n, k)).lookup x = some .free
 | [], h => by cases h
 | (n, k) :: r, h => by
  rw [List.lookup_cons] at h
  rw [Yr]
  dsimp only
  cases e : x == n with
  | true =>
   rw [e] at h
   cases h
   split <;> simp [List.lookup_cons, e]
  | false =>
   rw [e] at h
   split
   ·simp only [List.lookup_cons, e]; exact Zbi h
   ·simp only [List.lookup_cons, e]; exact Zbi h
def ZlK (ts : List Str) (caps : List Nat) (cs : List Str) (hcl : Zew X.env.cells sc.names [] = some cl := by rfl) (hcap : caps.map (λi => X.N[i]?) = cs.map some := by rfl) (hck : (cs.all λx => X.env.kindOf x == some .cell || X.env.kindOf x == some .free) = true := by rfl)
  (hcf : cs.map (λx => sc.names.lookup x) = cs.map (λ_ => some NameKind.free) := by rfl) (hk : sc.kind = .function := by rfl) (h : (sc.names.all λx => x.2 != .cell && (x.2 != .local || sc.names.lookup x.1 == some .local)) = true := by decide +kernel) : Blk X ts caps cs sc cl := by
 have hh : ∀ x ∈ sc.names, x.2 ≠ .cell /\ (x.2 = .local -> sc.names.lookup x.1 = some .local) := λx hx => by
  have q := List.all_eq_true.mp h x hx
  simp only [Bool.and_eq_true, bne_iff_ne, ne_eq, Bool.or_eq_true, beq_iff_eq] at q
  exact ⟨q.1, λz => q.2.elim (λy => absurd z y) id⟩
 have len : caps.length = cs.length := by have := congrArg List.length hcap; simpa using this
 refine ⟨?_, hk, λx hx => (hh x hx).1, λx hx => (hh x hx).2, λx c e => ?_, λx e => ?_, len, λk i x e1 e2 => ?_, λx hx => ?_⟩
 ·simp only [closureFor]
  rw [Zek hcl]
  rfl
 ·exact ZdG hcl (λp hp => by cases hp) _ (Vc e)
 ·have m : (x, NameKind.free) ∈ sc.names := by
   rcases e with e | e
   ·rcases Zb7 e with z | ⟨_, z⟩
    ·exact absurd rfl (hh _ z).1
    ·exact z
   ·rcases Zb7 e with z | ⟨z, _⟩
    ·exact z
    ·cases z
  obtain ⟨c, hc⟩ := ZcX hcl (.inl m)
  exact Zb6 hc
 ·have h1 := congrArg (·[k]?) hcap
  simp only [List.getElem?_map, e1, e2, Option.map_some, Option.some.injEq] at h1
  have h2 := List.all_eq_true.mp hck x (Yq e2)
  simp only [Bool.or_eq_true, beq_iff_eq] at h2
  exact ⟨h1, h2⟩
 ·obtain ⟨k, hk'⟩ := Vu hx
  have h1 := congrArg (·[k]?) hcf
  simp only [List.getElem?_map, hk', Option.map_some, Option.some.injEq] at h1
  exact Zbi h1
structure QTs (X : Cx) (ifs : List Expr) (t : TT) : Prop where
 h : PTs X ifs t
def ZgF {tt : TT} (h : QT X c tt) : QTs X [c] tt := ⟨Znz h.h⟩
def Zf8 {ifs : List Expr} {tt : TT} (B : Blk X ts caps cs sc cl) (hi : QI X tg it wi) (hg : ∀ s H fp, QG (blk X (ts ++ cs) sc cl s H fp) tg g) (ht : ∀ s H fp, QTs (blk X (ts ++ cs) sc cl s H fp) ifs tt) (he : ∀ s H fp, QE (blk X (ts ++ cs) sc cl s H fp) elt te) (hc : X.calm = true := by rfl) (hs : ∀ x, foldedSetIterable it X.env x = pure x := by intro _; rfl) :
  QE X (.ListComp elt [⟨tg, it, ifs, 0⟩] sc pos) (ZcD ts.length caps wi g tt te) := ⟨Zg6 B hi.h (λs H fp => (hg s H fp).h) (λs H fp => (ht s H fp).h) (λs H fp => (he s H fp).h) hc hs⟩
def Zh4 {ifs : List Expr} {tt : TT} {x : Str} {px spos : Pos} (i : Nat) (B : Blk X ts caps cs sc cl) (hi : QI X tg it wi) (hg : ∀ s H fp, QG (blk X (ts ++ cs) sc cl s H fp) tg g) (ht : ∀ s H fp, QTs (blk X (ts ++ cs) sc cl s H fp) ifs tt) (he : ∀ s H fp, QE (blk X (ts ++ cs) sc cl s H fp) elt te) (hx : QG X (.Name x px) (Jy i))
  (hsw : swapsWith (.ListComp elt [⟨tg, it, ifs, 0⟩] sc pos) (some (.Name x px)) spos.line X.env = pure true := by rfl) (hc : X.calm = true := by rfl) (hs : ∀ x, foldedSetIterable it X.env x = pure x := by intro _; rfl) :
  QS X (.Assign [.Name x px] (.ListComp elt [⟨tg, it, ifs, 0⟩] sc pos) spos) (Zku (ZcD ts.length caps wi g tt te) (Jy i)) := ⟨ZdN i B hi.h (λs H fp => (hg s H fp).h) (λs H fp => (ht s H fp).h) (λs H fp => (he s H fp).h) hx.h hsw hc hs⟩
def ZgU (B : Blk X ts caps cs sc cl) (hi : QI X tg it wi) (hg : ∀ s H fp, QG (blk X (ts ++ cs) sc cl s H fp) tg g) (he : ∀ s H fp, QE (blk X (ts ++ cs) sc cl s H fp) elt te) (hc : X.calm = true := by rfl) (hs : ∀ x, foldedSetIterable it X.env x = pure x := by intro _; rfl) :
  QE X (.ListComp elt [⟨tg, it, [], 0⟩] sc pos) (JS ts.length caps wi g te) := ⟨Zng B hi.h (λs H fp => (hg s H fp).h) (λs H fp => (he s H fp).h) hc hs⟩
def Zdq {x : Str} {px spos : Pos} (i : Nat) (B : Blk X ts caps cs sc cl) (hi : QI X tg it wi) (hg : ∀ s H fp, QG (blk X (ts ++ cs) sc cl s H fp) tg g) (he : ∀ s H fp, QE (blk X (ts ++ cs) sc cl s H fp) elt te) (hx : QG X (.Name x px) (Jy i))
  (hsw : swapsWith (.ListComp elt [⟨tg, it, [], 0⟩] sc pos) (some (.Name x px)) spos.line X.env = pure true := by rfl) (hc : X.calm = true := by rfl) (hs : ∀ x, foldedSetIterable it X.env x = pure x := by intro _; rfl) :
  QS X (.Assign [.Name x px] (.ListComp elt [⟨tg, it, [], 0⟩] sc pos) spos) (Zku (JS ts.length caps wi g te) (Jy i)) := ⟨ZhP i B hi.h (λs H fp => (hg s H fp).h) (λs H fp => (he s H fp).h) hx.h hsw hc hs⟩
end
section
variable {X : Cx} {a b c e : Expr} {ta tb tc te : TE} {pos : Pos} {st : Stmt}
theorem Zqc (ha : QE X a ta) (hb : QE X b tb) (hc : QE X c tc) (hm : lastMarks [CmpOp.LtE, CmpOp.Lt] [b, c] = false := by with_unfolding_all rfl) : QE X (.Compare a [.LtE, .Lt] [b, c] pos) (Zg8 (rI0 λi j => .bl (decide (i <= j))) (rI0 λi j => .bl (decide (i < j))) ta tb tc) := ⟨Zly Zq0 ZoK ha.h hb.h hc.h hm⟩
theorem Zqk (ha : QE X a ta) (hb : QE X b tb) (hm : behindInMarks .NotIn b = false := by with_unfolding_all rfl) : QE X (.Compare a [.NotIn] [b] pos) (tOp (rIn X.K true) ta tb) := ⟨ZcW ZcC ha.h hb.h hm⟩
def ZpT {x : Str} {i : Int} {tk : Tok} (hg : Gl X x) (hm : X.mg x = some (.int i tk)) (hd : (x == ("__debug__" : Str)) = false := by decide) : QE X (.Name x pos) (tC (.int i)) := ⟨Zjz hg hm ⟨_, rfl⟩ hd⟩
end
def ZpO (K : PySem.W.Frag) (g : TG) (tb : TS) (D : Ends) (Z : St) : List V -> Hp -> Prop := λvs H1 => ∃ a, vs = [.ref a] /\ (∃ xs, SqL K H1 a xs) /\ ∃ W : Nat -> Nat -> St -> Hp -> Prop, (∃ m, W 0 m Z H1) /\ ∀ i m Z H, W i m Z H ->
 ((Ite K a).stop i H /\ D.nx Z H) \/ ((Ite K a).go i H /\ ∃ N : St -> Hp -> Prop, (∀ Z' H', N Z' H' -> ∃ m', m' < m /\ W (i + 1) m' Z' H') /\ ∀ x H', (Ite K a).yld i H x H' -> g x Z H' λZ2 H2 => tb { D with nx := N, ct := N, bk := D.nx } Z2 H2)
theorem Zfz {K : PySem.W.Frag} {ta : TA} {g : TG} {tb : TS} {D : Ends} {Z : St} {H : Hp} : Zks (Zoh K ta) g tb D Z H = ta Z H (ZpO K g tb D Z) := rfl
def Zha {K : PySem.W.Frag} {a : Addr} {xs : List V} {g : TG} {tb : TS} {D : Ends} {Z : St} {H : Hp} (Pv : Nat -> St -> Hp -> Prop) (h0 : Pv 0 Z H) (hl : ∀ i Z H, i <= xs.length -> Pv i Z H -> SqL K H a xs)
  (hs : ∀ i x Z H p H', xs[i]? = some x -> Pv i Z H -> H p = none -> Same H H' -> H' p = some (.tup [.int i, x]) -> g (.ref p) Z H' λZ2 H2 => tb { D with nx := Pv (i + 1), ct := Pv (i + 1), bk := D.nx } Z2 H2) (hd : ∀ Z H, Pv xs.length Z H -> D.nx Z H) :
  ZpO K g tb D Z [.ref a] H := by
 refine ⟨a, rfl, ⟨xs, hl 0 Z H (Nat.zero_le _) h0⟩, λi m Z H => m = xs.length - i /\ i <= xs.length /\ Pv i Z H, ⟨xs.length, by simp, Nat.zero_le _, h0⟩, ?_⟩
 rintro i m Z H ⟨rfl, hi, p⟩
 have q := hl i Z H hi p
 by_cases hlt : i < xs.length
 ·refine .inr ⟨⟨xs, xs[i], q, by simp [hlt]⟩, Pv (i + 1), λZ' H' p' => ⟨xs.length - (i + 1), by omega, rfl, hlt, p'⟩, λx H' y => ?_⟩
  obtain ⟨b, y, rfl, hn, sm, e, hy⟩ := y
  exact hs i y Z H b H' (hy xs q) p hn sm e
 ·have e : i = xs.length := by omega
  subst e
  exact .inl ⟨⟨xs, q, Yd _⟩, hd _ _ p⟩
def Zg9 {lo : Int} {n nt : Nat} {cp : St} {g : TG} {tt : TT} {te : TE} {H1 : Hp} {Q : VK} (Pv : Addr -> Nat -> List V -> Hp -> Prop) (h0 : ∀ acc H2, H1 acc = none -> Same H1 H2 -> H2 acc = some (.lst []) -> Pv acc 0 [] H2)
  (hl : ∀ acc i ys H, Pv acc i ys H -> H acc = some (.lst ys) /\ ys.length < 1000000)
  (hs : ∀ acc i ys H os, H1 acc = none -> i < n -> Pv acc i ys H -> os.length = nt -> g (.int (lo + (i : Nat))) (os ++ cp) H λτ H3 => ∃ os', os'.length = nt /\ τ = os' ++ cp /\ tt τ H3 λb H4 => if b = true then te τ H4 λv H5 => H5 acc = some (.lst ys) /\ Pv acc (i + 1) (ys ++ [v]) (upd H5 acc (.lst (ys ++ [v]))) else Pv acc (i + 1) ys H4)
  (hd : ∀ acc ys H, H1 acc = none -> Pv acc n ys H -> Q (.ref acc) H) : ZfC nt cp (Itr lo n) g tt te H1 Q := by
 intro acc H2 hn sm e
 refine ⟨λi m ys H => m = n - i /\ i <= n /\ Pv acc i ys H, ⟨n, by simp, Nat.zero_le _, h0 acc H2 hn sm e⟩, ?_⟩
 rintro i m ys H ⟨rfl, hi, p⟩
 obtain ⟨q1, q2⟩ := hl acc i ys H p
 refine ⟨q1, ?_⟩
 by_cases hlt : i < n
 ·refine .inr ⟨hlt, q2, Pv acc (i + 1), λys' H' p' => ⟨n - (i + 1), by omega, rfl, hlt, p'⟩, λos x H' ol y => ?_⟩
  obtain ⟨rfl, rfl⟩ := y
  exact hs acc i ys _ os hn hlt p ol
 ·have e : i = n := by omega
  subst e
  exact .inl ⟨Yd _, hd _ _ _ hn p⟩
def Zki {lo : Int} {n nt : Nat} {cp : St} {g : TG} {te : TE} {H1 : Hp} {Q : VK} (Pv : Addr -> Nat -> List V -> Hp -> Prop) (h0 : ∀ acc H2, H1 acc = none -> Same H1 H2 -> H2 acc = some (.lst []) -> Pv acc 0 [] H2)
  (hl : ∀ acc i ys H, Pv acc i ys H -> H acc = some (.lst ys) /\ ys.length < 1000000)
  (hs : ∀ acc i ys H os, H1 acc = none -> i < n -> Pv acc i ys H -> os.length = nt -> g (.int (lo + (i : Nat))) (os ++ cp) H λτ H3 => ∃ os', os'.length = nt /\ τ = os' ++ cp /\ te τ H3 λv H4 => H4 acc = some (.lst ys) /\ Pv acc (i + 1) (ys ++ [v]) (upd H4 acc (.lst (ys ++ [v]))))
  (hd : ∀ acc ys H, H1 acc = none -> Pv acc n ys H -> Q (.ref acc) H) : Zod nt cp (Itr lo n) g te H1 Q := by
 refine Zg9 (tt := Zmw) Pv h0 hl (λacc i ys H os a b c d => ?_) hd
 have h := hs acc i ys H os a b c d
 have e : (λτ H3 => ∃ os', os'.length = nt /\ τ = os' ++ cp /\ Zmw τ H3 λb H4 => if b = true then te τ H4 λv H5 => H5 acc = some (.lst ys) /\ Pv acc (i + 1) (ys ++ [v]) (upd H5 acc (.lst (ys ++ [v]))) else Pv acc (i + 1) ys H4) =
   (λτ H3 => ∃ os', os'.length = nt /\ τ = os' ++ cp /\ te τ H3 λv H4 => H4 acc = some (.lst ys) /\ Pv acc (i + 1) (ys ++ [v]) (upd H4 acc (.lst (ys ++ [v])))) := by
  funext τ H3
  simp only [Zmw, if_true]
 rw [e]
 exact h
def ZrA (lo : Int) (n : Nat) (g : TG) (tb : TS) (D : Ends) (Z : St) : Hp -> Prop := λH1 => ∃ W : Nat -> Nat -> St -> Hp -> Prop, (∃ m, W 0 m Z H1) /\ ∀ i m Z H, W i m Z H ->
 ((Itr lo n).stop i H /\ D.nx Z H) \/ ((Itr lo n).go i H /\ ∃ N : St -> Hp -> Prop, (∀ Z' H', N Z' H' -> ∃ m', m' < m /\ W (i + 1) m' Z' H') /\ ∀ x H', (Itr lo n).yld i H x H' -> g x Z H' λZ2 H2 => tb { D with nx := N, ct := N, bk := D.nx } Z2 H2)
theorem Zb3 {ta : TA} {g : TG} {tb : TS} {D : Ends} {Z : St} {H : Hp} : Zks (Zh0 ta) g tb D Z H = ta Z H λvs H1 => ∃ j : Int, vs = [.int j] /\ -(2 ^ 62) <= j /\ j < 2 ^ 62 /\ ZrA 0 j.toNat g tb D Z H1 := rfl
def Zjt {ta : TA} {g : TG} {tb : TS} {D : Ends} {Z : St} {H : Hp} : Zks (ZnW ta) g tb D Z H = ta Z H λvs H1 => ∃ i j : Int, vs = [.int i, .int j] /\ (-(2 ^ 62) <= i /\ i < 2 ^ 62 /\ -(2 ^ 62) <= j /\ j < 2 ^ 62) /\ ZrA i (j - i).toNat g tb D Z H1 := rfl
theorem ZcV {lo : Int} {n : Nat} {g : TG} {tb : TS} {D : Ends} {Z : St} {H : Hp} (Pv : Nat -> St -> Hp -> Prop) (h0 : Pv 0 Z H) (hs : ∀ i Z H, i < n -> Pv i Z H -> g (.int (lo + (i : Nat))) Z H λZ2 H2 => tb { D with nx := Pv (i + 1), ct := Pv (i + 1), bk := D.nx } Z2 H2)
  (hd : ∀ Z H, Pv n Z H -> D.nx Z H) : ZrA lo n g tb D Z H := by
 refine ⟨λi m Z H => m = n - i /\ i <= n /\ Pv i Z H, ⟨n, by simp, Nat.zero_le _, h0⟩, ?_⟩
 rintro i m Z H ⟨rfl, hi, p⟩
 by_cases hlt : i < n
 ·refine .inr ⟨hlt, Pv (i + 1), λZ' H' p' => ⟨n - (i + 1), by omega, rfl, hlt, p'⟩, λx H' y => ?_⟩
  obtain ⟨rfl, rfl⟩ := y
  exact hs i Z _ hlt p
 ·have e : i = n := by omega
  subst e
  exact .inl ⟨Yd _, hd _ _ p⟩
def ZpP (K : PySem.W.Frag) (g : TG) (tb : TS) (D : Ends) (Z : St) : V -> Hp -> Prop := λx H1 => ∃ a, x = .ref a /\ (∃ xs, SqL K H1 a xs) /\ ∃ W : Nat -> Nat -> St -> Hp -> Prop, (∃ m, W 0 m Z H1) /\ ∀ i m Z H, W i m Z H ->
 ((Itl K a).stop i H /\ D.nx Z H) \/ ((Itl K a).go i H /\ ∃ N : St -> Hp -> Prop, (∀ Z' H', N Z' H' -> ∃ m', m' < m /\ W (i + 1) m' Z' H') /\ ∀ x H', (Itl K a).yld i H x H' -> g x Z H' λZ2 H2 => tb { D with nx := N, ct := N, bk := D.nx } Z2 H2)
theorem Za1 {K : PySem.W.Frag} {te : TE} {g : TG} {tb : TS} {D : Ends} {Z : St} {H : Hp} : Zks (Zef K te) g tb D Z H = te Z H (ZpP K g tb D Z) := rfl
theorem ZbD {K : PySem.W.Frag} {a : Addr} {xs : List V} {g : TG} {tb : TS} {D : Ends} {Z : St} {H : Hp} (Pv : Nat -> St -> Hp -> Prop) (h0 : Pv 0 Z H) (hl : ∀ i Z H, i <= xs.length -> Pv i Z H -> SqL K H a xs)
  (hs : ∀ i x Z H, xs[i]? = some x -> Pv i Z H -> g x Z H λZ2 H2 => tb { D with nx := Pv (i + 1), ct := Pv (i + 1), bk := D.nx } Z2 H2) (hd : ∀ Z H, Pv xs.length Z H -> D.nx Z H) : ZpP K g tb D Z (.ref a) H :=
 ⟨a, rfl, ⟨xs, hl 0 Z H (YA _) h0⟩, Zgu Pv h0 hl hs hd⟩
def ZrU (K : PySem.W.Frag) (g : TG) (tb : TS) (D : Ends) (Z : St) : V -> Hp -> Prop := λx H1 => ∃ a, x = .ref a /\ (∃ xs, SqT K H1 a xs) /\ ∃ W : Nat -> Nat -> St -> Hp -> Prop, (∃ m, W 0 m Z H1) /\ ∀ i m Z H, W i m Z H ->
 ((Itt K a).stop i H /\ D.nx Z H) \/ ((Itt K a).go i H /\ ∃ N : St -> Hp -> Prop, (∀ Z' H', N Z' H' -> ∃ m', m' < m /\ W (i + 1) m' Z' H') /\ ∀ x H', (Itt K a).yld i H x H' -> g x Z H' λZ2 H2 => tb { D with nx := N, ct := N, bk := D.nx } Z2 H2)
theorem ZlT {K : PySem.W.Frag} {te : TE} {g : TG} {tb : TS} {D : Ends} {Z : St} {H : Hp} : Zks (Zrb K te) g tb D Z H = te Z H (ZrU K g tb D Z) := rfl
def Zoe {K : PySem.W.Frag} {a : Addr} {xs : List V} {g : TG} {tb : TS} {D : Ends} {Z : St} {H : Hp} (Pv : Nat -> St -> Hp -> Prop) (h0 : Pv 0 Z H) (hl : ∀ i Z H, i <= xs.length -> Pv i Z H -> SqT K H a xs)
  (hs : ∀ i x Z H, xs[i]? = some x -> Pv i Z H -> g x Z H λZ2 H2 => tb { D with nx := Pv (i + 1), ct := Pv (i + 1), bk := D.nx } Z2 H2) (hd : ∀ Z H, Pv xs.length Z H -> D.nx Z H) : ZrU K g tb D Z (.ref a) H := by
 refine ⟨a, rfl, ⟨xs, hl 0 Z H (Nat.zero_le _) h0⟩, λi m Z H => m = xs.length - i /\ i <= xs.length /\ Pv i Z H, ⟨xs.length, by simp, Nat.zero_le _, h0⟩, ?_⟩
 rintro i m Z H ⟨rfl, hi, p⟩
 have q := hl i Z H hi p
 by_cases hlt : i < xs.length
 ·refine .inr ⟨⟨xs, xs[i], q, by simp [hlt]⟩, Pv (i + 1), λZ' H' p' => ⟨xs.length - (i + 1), by omega, rfl, hlt, p'⟩, λx H' y => ?_⟩
  obtain ⟨rfl, hy⟩ := y
  exact hs i x Z _ (hy xs q) p
 ·have e : i = xs.length := by omega
  subst e
  exact .inl ⟨⟨xs, q, Yd _⟩, hd _ _ p⟩
structure Mth (P : Program) (w : World) (K : PySem.W.Frag) (mg : Str -> Option Value) (base : Heap) (CX : CXT) (k : Nat) (C : Addr) (m : Str) (ps : List Str) (sp : Sp) : Prop where
 ex : ∃ (f : Addr) (fd : FuncData), FnOk P w K mg base CX k f fd ps sp /\ Binds K fd ps [] /\ Meth K C m f /\ Cls K C
structure Mkr (P : Program) (w : World) (K : PySem.W.Frag) (mg : Str -> Option Value) (base : Heap) (CX : CXT) (k : Nat) (C : Addr) (x : Str) (ps : List Str) (sp : Sp) : Prop where
 ex : ∃ (f : Addr) (fd : FuncData), FnOk P w K mg base CX k f fd ps sp /\ Binds K fd ps [] /\ Mk K C f /\ mg x = some (.ref C)
section
variable {X : Cx} {CX : CXT} {j k : Nat} {C : Addr} {x m fl : Str} {ps : List Str} {sp : Sp} {p pos apos : Pos} {e o value : Expr} {es : List Expr} {t : TA} {ta tv : TE} {E : XK}
theorem ZbI {pl : Sem Bool} (F : Mth X.prog X.w X.K X.mg X.base Zx j C m ps sp) (hr : Room k X.A) (hj : j <= k) (ho : QE X o ta) (ha : QA X (e :: es) t) (hp : (e :: es).all Zn = true := by rfl)
  (ht : eval (.Call (.Attribute o m apos) (e :: es) [] pos) X.env = (do
   let ov <- eval o X.env
   standAt apos.atName
   let (f, first) <- holding [ov] (getMethod ov m pl)
   callWith pos f first (backTo pos (starEach (e :: es) X.env)) (backToKw pos (keywordEach [] X.env))) := by rfl) :
  QE X (.Call (.Attribute o m apos) (e :: es) [] pos) (ZhA C m sp [] E0 ta t) := by
 obtain ⟨f, fd, G, b, hm, c⟩ := F.ex
 exact ⟨Zn7 ho.h c hm G (hr.mono hj) b .nil Zi8 ha.h (Zi (ZM hp).1) (ZbL (ZM hp).2) ht⟩
def Zje {pl : Sem Bool} (F : Mth X.prog X.w X.K X.mg X.base Zx j C m ps sp) (hr : Room k X.A) (hj : j <= k) (ho : QE X o ta)
  (ht : eval (.Call (.Attribute o m apos) [] [] pos) X.env = (do
   let ov <- eval o X.env
   standAt apos.atName
   let (f, first) <- holding [ov] (getMethod ov m pl)
   callWith pos f first (backTo pos (starEach [] X.env)) (backToKw pos (keywordEach [] X.env))) := by rfl) :
  QE X (.Call (.Attribute o m apos) [] [] pos) (ZhA C m sp [] E0 ta Zn5) := by
 obtain ⟨f, fd, G, b, hm, c⟩ := F.ex
 exact ⟨Zlz ho.h c hm G (hr.mono hj) b .nil Zi8 ht⟩
def Zo1 (F : Mkr X.prog X.w X.K X.mg X.base Zx j C x ps sp) (hr : Room (k + 1) X.A) (hj : j <= k) (hg : Gl X x) (ha : QA X (e :: es) t) (hp : (e :: es).all Zn = true := by rfl) (hdb : (x == ("__debug__" : Str)) = false := by decide) :
  QE X (.Call (.Name x p) (e :: es) [] pos) (Zmr C sp [] E0 t) := by
 obtain ⟨f, fd, G, b, M, hm⟩ := F.ex
 exact ⟨ZnV M (G.mono hj) hr hg hm b .nil Zi8 ha.h hdb (Zi (ZM hp).1) (ZbL (ZM hp).2)⟩
def ZoD (ho : QE X e ta) (hb : attributeBase e fl X.env (eval e X.env) = eval e X.env := by rfl) : QE X (.Attribute e fl pos) (Zpn X.K ta fl) := ⟨ZmG ho.h hb⟩
def Zqf {pos' : Pos} (ho : QE X o ta) (hv : QE X value tv) (hs : swapsWith value (some (.Attribute o fl pos')) pos.line X.env = pure false := by rfl) : QS X (.Assign [.Attribute o fl pos'] value pos) (ZqB X.K ta tv fl) := ⟨Zqz ho.h hv.h hs⟩
def Zo2 (K : PySem.W.Frag) (ho : QE X e ta) (hK : X.K = K := by rfl) (hb : attributeBase e fl X.env (eval e X.env) = eval e X.env := by rfl) : QE X (.Attribute e fl pos) (Zpn K ta fl) := by subst hK; exact ⟨ZmG ho.h hb⟩
theorem Ziu (K : PySem.W.Frag) (ha : QE X o ta) (hb : QE X e tv) (hK : X.K = K := by rfl) (hm : behindInMarks .In e = false := by with_unfolding_all rfl) : QT X (.Compare o [.In] [e] pos) (JP (tOp (rIn K false) ta tv)) := by subst hK; exact ⟨Za8 ZiI ha.h hb.h hm⟩
theorem Zok (K : PySem.W.Frag) (ha : QE X o ta) (hb : QE X e tv) (hK : X.K = K := by rfl) (hm : behindInMarks .NotIn e = false := by with_unfolding_all rfl) : QT X (.Compare o [.NotIn] [e] pos) (JP (tOp (rIn K true) ta tv)) := by subst hK; exact ⟨Za8 ZcC ha.h hb.h hm⟩
def ZmC (C : Addr) (m : Str) (sp : Sp) (ta : TE) (t : TA) : TEX := λZ H Q EX => ta Z H λx H1 => ∃ a dx fs, x = .ref a /\ H1 a = some (.ins C dx fs) /\ fs.lookup m = none /\ t Z H1 λvs H2 => sp (x :: vs) H2 Q EX
end
section
variable {M : Model} {A : Around} {E : Value -> Shared -> Prop} {s : Shared} {B : Heap} {env : Env} {outer : List Env} {L e : Addr} {cls a0 : Value}
end
section
variable {X : Cx} {E : XK} {pins : List (Addr × Obj)} {Z : St} {H : Hp} {s : Shared}
variable {ts cs : List Str} {caps : List Nat} {sc : Scope} {cl : List (Str × Addr)} {fp : List Addr}
end
section
variable {X : Cx} {E : XK} {j k : Nat} {x : Str} {ps : List Str} {sp : Sp} {p pos : Pos} {e elt tg it : Expr} {es : List Expr} {t : TA} {ts cs : List Str} {caps : List Nat} {sc : Scope} {cl : List (Str × Addr)} {wi : TI} {g : TG} {te : TE}
end
def Zii (K : PySem.W.Frag) (D : Addr) (th : Addr -> TS) (En : Ends) (Z : St) : XK := λc _ H' => ∃ C, c = .ref C /\ exmOne K (.ref C) (.ref D) = some true /\ ∀ ea, th ea { nx := En.nx, rt := En.rt, bk := En.bk, ct := En.ct } Z H'
def ZpU (K : PySem.W.Frag) (tb : TSX) (D : Addr) (th : Addr -> TS) : TS := λEn Z H => tb En (Zii K D th En) Z H
section
variable {X : Cx} {body : List Stmt} {x : Str} {np hpos pos : Pos} {b₀ : Stmt} {suite : List Stmt} {tb : TSX} {th : Addr -> TS} {D : Addr}
end
def Zmx (C : Addr) (sp : Sp) (t : TA) : TEX := λZ H Q EX => t Z H λvs H1 => ∀ x dx, H1 x = none -> H1 dx = none -> dx ≠ x -> sp (.ref x :: vs) (upd (upd H1 dx (.own x)) x (.ins C dx [])) (λv H2 => v = .non /\ Q (.ref x) H2) EX
section
variable {X : Cx} {j k : Nat} {C : Addr} {x : Str} {ps : List Str} {sp : Sp} {p pos : Pos} {e : Expr} {es : List Expr} {t : TA}
end
section
variable {X : Cx} {e : Expr} {te : TE} {p1 p2 p3 pos : Pos} {c1 c2 : Str} {k1 k2 : Nat}
def tFs (te : TE) : TE := λZ H Q => te Z H λx H1 => ∃ i : Int, x = .int i /\ i.natAbs < 2 ^ 30 /\ ∀ z, Q (.str z) H1
end
section
variable {X : Cx} {e : Expr} {t : TA} {p pos : Pos}
end
section
variable {X : Cx} {pins : List (Addr × Obj)} {Z : St} {H : Hp} {s : Shared}
def EqD.neAt (I : Inv X pins Z H s) {x y : V} {b : Bool} {n : Nat} (h : EqD H x y b n) : ∀ {A : Around} {u v : Value}, RelV x u -> RelV y v -> A.units + n < cLine -> (∃ a c, x = .ref a /\ y = .ref c) -> SeqAt.RcNeAt A s u v (!b) := by
 induction h with
 | flat fx fy =>
  rintro A u v r1 r2 _ ⟨a, c, rfl, _⟩
  cases fx
 | up h ih =>
  intro A u v r1 r2 hu w
  exact ih r1 r2 (by omega) w
 | @tup a b xs ys e n ha hb h ih =>
  intro A u v r1 r2 hu _
  cases r1
  cases r2
  obtain ⟨its, v1, t1, _⟩ := I.tuple (SqT.of ha)
  obtain ⟨jts, v2, t2, _⟩ := I.tuple (SqT.of hb)
  have z := SeqAt.RcNeAt.tuples (A := A) (s := s) (e := e) t1 t2 (by omega) λj h1 h2 => by
   have k1 : j < xs.length := by rw [v1.length]; simpa using h1
   have k2 : j < ys.length := by rw [v2.length]; simpa using h2
   obtain ⟨u1, q1, w1⟩ := v1.get (Yc k1)
   obtain ⟨u2, q2, w2⟩ := v2.get (Yc k2)
   have g1 : its.toArray[j] = u1 := by
    have := Yj.mp q1
    obtain ⟨hh, this⟩ := this
    simpa using this
   have g2 : jts.toArray[j] = u2 := by
    have := Yj.mp q2
    obtain ⟨hh, this⟩ := this
    simpa using this
   rw [g1, g2]
   exact ((h j _ _ (Yc k1) (Yc k2)).at I w1 w2 (by show A.units + 1 + n < cLine; omega)).1
  simpa [v1.length, v2.length] using z
 | @lst a b xs ys e n ha hb hl h ih =>
  intro A u v r1 r2 hu _
  cases r1
  cases r2
  obtain ⟨its, v1, t1, _⟩ := I.list (SqL.of ha)
  obtain ⟨jts, v2, t2, _⟩ := I.list (SqL.of hb)
  have z := SeqAt.RcNeAt.lists (A := A) (s := s) (e := e) t1.isList t2.isList (by simp [<- v1.length, <- v2.length, hl]) (by omega) λj h1 h2 => by
   have k1 : j < xs.length := by rw [v1.length]; simpa using h1
   have k2 : j < ys.length := by rw [v2.length]; simpa using h2
   obtain ⟨u1, q1, w1⟩ := v1.get (Yc k1)
   obtain ⟨u2, q2, w2⟩ := v2.get (Yc k2)
   have g1 : its.toArray[j] = u1 := by
    have := Yj.mp q1
    obtain ⟨hh, this⟩ := this
    simpa using this
   have g2 : jts.toArray[j] = u2 := by
    have := Yj.mp q2
    obtain ⟨hh, this⟩ := this
    simpa using this
   rw [g1, g2]
   exact ((h j _ _ (Yc k1) (Yc k2)).at I w1 w2 (by show A.units + 1 + n < cLine; omega)).1
  simpa [v1.length, v2.length] using z
 | @lstNe a b xs ys n ha hb hl =>
  intro A u v r1 r2 hu _
  cases r1
  cases r2
  obtain ⟨its, v1, t1, _⟩ := I.list (SqL.of ha)
  obtain ⟨jts, v2, t2, _⟩ := I.list (SqL.of hb)
  exact SeqAt.RcNeAt.lists_lengths t1.isList t2.isList (by simp [<- v1.length, <- v2.length]; exact hl) (by omega)
end
section
variable {X : Cx} {a b : Expr} {ta tb : TE} {pos : Pos} {k : Nat}
def ZrV : R2 := λx y H Q => ∃ t n p c, x = .ref p /\ y = .ref c /\ EqD H x y t n /\ n <= 60 /\ Q (.bl (!t)) H
def Zpk (hr : Room k X.A) : OpR X (compareOp .NotEq) ZrV := by
 intro pins s Z H x y v u Q I rx ry h
 obtain ⟨t, n, p, c, e1, e2, h, hn, q⟩ := h
 have hu := hr.units
 exact (h.neAt I rx ry (by omega) ⟨p, c, e1, e2⟩) _ _ _ _ ⟨.bl (!t), H, I, rfl, q⟩
def Zq5 (hr : Room k X.A) (ha : QE X a ta) (hb : QE X b tb) : QT X (.Compare a [.NotEq] [b] pos) (JP (tOp ZrV ta tb)) := ⟨Za8 (Zpk hr) ha.h hb.h (JB _)⟩
end
section
variable {X : Cx} {o e : Expr} {es : List Expr} {to : TE} {t : TA} {name : Str} {apos cpos : Pos} {id : String} {r : V -> List V -> Hp -> VK -> Prop}
def ZqS (r : V -> List V -> Hp -> VK -> Prop) (to : TE) : TE := λZ H Q => to Z H λx H1 => r x [] H1 Q
def tLm (r : V -> List V -> Hp -> VK -> Prop) (to : TE) (t : TA) : TE := λZ H Q => to Z H λx H1 => ∃ l zs, x = .ref l /\ H1 l = some (.lst zs) /\ t Z H1 λvs H2 => r x vs H2 Q
def Zpb (slot : Slot "list" name id) (hty : typeOf (.builtin id) = pure (.type "method_descriptor")) (hm : MtM X id r) (hr : ∀ x H Q, r x [] H Q -> ∃ l zs, x = .ref l /\ H l = some (.lst zs)) (ho : PE X o to)
  (hbase : attributeBase o name X.env (eval o X.env) = eval o X.env := by rfl) (hline : (apos.endLine == cpos.line) = true := by rfl) : PE X (.Call (.Attribute o name apos) [] [] cpos) (ZqS r to) := by
 intro pins s Z H Q I h
 refine wpAny_Call_method0_late hbase hline (ZR (ho pins s Z H _ I h) λv s1 ⟨x, H1, I1, r1, q1⟩ => ?_)
 obtain ⟨l, zs, e1, e2⟩ := hr _ _ _ q1
 obtain ⟨h1, h2⟩ := ZiH (T := "list") I1 r1 (by rw [e1]; exact .inl ⟨rfl, zs, SqL.of e2⟩)
 exact ⟨"list", id, PySem.F.plainAttrs_list, slot, hty, h1, h2, VF rfl (PySem.evalArgs_none (hm pins s1 Z H1 x [] v [] Q I1 r1 .nil q1))⟩
def Zrt (slot : Slot "list" name id) (hty : typeOf (.builtin id) = pure (.type "method_descriptor")) (hm : MtM X id r) (ho : PE X o to) (ha : PA X (e :: es) t)
  (hbase : attributeBase o name X.env (eval o X.env) = eval o X.env := by rfl)
  (hfew : ((backTo cpos (starEach (e :: es) X.env)).all (λx => !x.1) && (backToKw cpos (keywordEach [] X.env)).all (λx => x.1.isSome)
   && decide ((e :: es).length + ([] : List Keyword).length + (if ([] : List Keyword).isEmpty then 0 else 1) < 30)) = true := by rfl)
  (hline : (apos.endLine == cpos.line) = true := by rfl) (hs : starEach (e :: es) X.env = (false, eval e X.env) :: starEach es X.env := by rfl) (hplain : (backTo cpos (starEach es X.env)).any (·.1) = false := by rfl) :
  PE X (.Call (.Attribute o name apos) (e :: es) [] cpos) (tLm r to t) := by
 intro pins s Z H Q I h
 refine wpAny_Call_method_late hbase hfew hline rfl (ZR (ho pins s Z H _ I h) λv s1 ⟨x, H1, I1, r1, l, zs, e1, e2, q1⟩ => ?_)
 obtain ⟨h1, h2⟩ := ZiH (T := "list") I1 r1 (by rw [e1]; exact .inl ⟨rfl, zs, SqL.of e2⟩)
 refine ⟨"list", id, PySem.F.plainAttrs_list, slot, hty, h1, h2, ?_⟩
 have hA := ha cpos pins s1 Z H1 _ I1 q1
 rw [hs] at hA ⊢
 refine VF (by show (false || (backTo cpos (starEach es X.env)).any (·.1)) = false; rw [hplain] <;> rfl) (V6 ?_)
 exact ZR hA λus s2 ⟨vs, H2, I2, r2, q2⟩ => hm pins s2 Z H2 x vs v us Q I2 r1 r2 q2
def Zo5 (ho : QE X o to) (hbase : attributeBase o "pop" X.env (eval o X.env) = eval o X.env := by rfl) (hline : (apos.endLine == cpos.line) = true := by rfl) : QE X (.Call (.Attribute o "pop" apos) [] [] cpos) (ZqS ZqA to) :=
 ⟨Zpb PySem.F.slot_list_pop PySem.F.type_list_pop Zpt (λ_ _ _ ⟨l, zs, _, h1, _, h2, _⟩ => ⟨l, zs, h1, h2⟩) ho.h hbase hline⟩
def Zry (ho : QE X o to) (ha : QA X [e] t) (hbase : attributeBase o "extend" X.env (eval o X.env) = eval o X.env := by rfl) (hline : (apos.endLine == cpos.line) = true := by rfl) (hp : Zn e = true := by rfl) :
  QE X (.Call (.Attribute o "extend" apos) [e] [] cpos) (tLm Zec to t) :=
 ⟨Zrt PySem.F.slot_list_extend PySem.F.type_list_extend Zkq ho.h ha.h hbase (by rw [Zi hp]; rfl) hline (Zi hp) rfl⟩
end
def Zlm {P : Program} {w : World} {k : ZC} {u : Value} (h : (ZO P w).is k u = true) : RelV (kV k) u := by
 rcases Zak h with ⟨i, t, rfl, rfl⟩ | ⟨x, t, rfl, rfl⟩ <;> exact ⟨t, rfl⟩
section
variable {X : Cx} {pins : List (Addr × Obj)} {Z : St} {H : Hp} {s : Shared} {a : Addr} {kvs : List (ZC × V)}
def ZmQ (I : Inv X pins Z H s) (e : H a = some (.dK kvs)) : ∃ o, Inv X pins Z (upd H a (.frz o (.dK kvs))) s := by
 obtain ⟨z, hd, vs, rel, o, es, ep, ho, r⟩ := Zn4 I.hok e
 refine ⟨o, ?_⟩
 exact I.write (x := a) (e := a) (o := .frz o (.dK kvs)) (h' := s.heap) (t' := s.toks) (by rw [e]; exact trivial) (.inl rfl) (λb u _ q => q) ⟨o, ho⟩ ⟨ho, z, hd, vs, rel, o, es, ep, ho, r⟩
def Zr1 (i : Nat) (t : TS) : TS := λD Z H => ∃ a kvs, Z[i]? = some (some (.ref a)) /\ H a = some (.dK kvs) /\ ∀ o, t D Z (upd H a (.frz o (.dK kvs)))
def Zq9 {sts : List Stmt} {t : TS} (i : Nat) (h : QB X sts t) : QB X sts (Zr1 i t) := ⟨λpins s Z H D I ⟨_, _, _, e, q⟩ => let ⟨o, I'⟩ := ZmQ I e; h.h pins s Z _ D I' (q o)⟩
end
def Itd (a : Addr) (o : Obj) (kvs : List (ZC × V)) : It := ⟨λi H => H a = some (.frz o (.dK kvs)) /\ i < kvs.length, λi H x H' => H' = H /\ ∃ kv, kvs[i]? = some kv /\ x = kV kv.1, λi H => H a = some (.frz o (.dK kvs)) /\ kvs.length <= i⟩
def ZmW {P : Program} {w : World} {H : Hp} {h : Heap} {a : Addr} {o : Obj} {kvs : List (ZC × V)} {es} {ep : Nat} (ok : HOk P w H h) (e : H a = some (.frz o (.dK kvs))) (hep : o.data = .dict es ep) :
  (a == sysModules) = false /\ kvs.length <= sizeLine /\ ∃ vs, KV kvs vs /\ h.DictAt (ZO P w) a vs ep := by
 obtain ⟨ho, z, hd, vs, rel, o', es', ep', ho', h1, h2, h3⟩ := (show ObjOk P w H h a (.frz o (.dK kvs)) from ok a _ e)
 rw [ho] at ho'
 cases ho'
 rw [hep] at h2
 cases h2
 exact ⟨hd, z, vs, rel, o, es, ho, h1, hep, h3⟩
def Zko {kvs : List (ZC × V)} {vs : List (ZC × Value)} (r : KV kvs vs) {i : Nat} (hi : i < kvs.length) : ∃ kv v, kvs[i]? = some kv /\ vs[i]? = some (kv.1, v) := by
 have hl : i < vs.length := by rw [<- r.length]; exact hi
 have hk := congrArg (·[i]?) r.keys
 simp only [List.getElem?_map, List.getElem?_eq_getElem hi, List.getElem?_eq_getElem hl, Option.map_some, Option.some.injEq] at hk
 exact ⟨kvs[i], vs[i].2, Yc hi, by rw [Yc hl, hk]⟩
def Zi7 {P : Program} {w : World} {K : PySem.W.Frag} {tg : Expr} (a it : Addr) (o : Obj) (kvs : List (ZC × V)) {es} {ep : Nat} (hep : o.data = .dict es ep) : Turn P w K tg (Itd a o kvs) [it] it (λi h => h.IsKeyIter it a i kvs.length ep) where
 mem := by simp
 obj := λi h st b hb => by
  have e : b = it := by simpa using hb
  subst e
  obtain ⟨o, e, c, d⟩ := st
  exact ⟨o, e, λv z => by rw [d] at z; cases z⟩
 keep := λi h h' st k => st.at λo e => k it (by simp) o e
 item := by
  intro X hP hw hK hc i pins s Z H E I hf st hg
  subst hP hw hK
  obtain ⟨e, hi⟩ := hg
  obtain ⟨_, _, vs, rel, at_⟩ := ZmW I.hok e hep
  obtain ⟨kv, v, g1, g2⟩ := Zko rel hi
  obtain ⟨f0, f1, f2, f3, f4, f5⟩ := hf it (by simp)
  rw [rel.length] at st
  refine wpAny_pyNext_dict_item st at_ g2 λkey h' hk st' sb => ?_
  have I1 : Inv X pins Z H { s with heap := h' } := I.turned (t' := s.toks) (λb o hb e => (sb.2 b hb).trans e) f0 f1 f3 f4 f5
  obtain ⟨ob, e', c, d⟩ := id st'
  rw [<- rel.length] at st'
  exact ⟨key, rfl, ZkV (s := { s with heap := h' }) e' c d (by decide) ⟨kV kv.1, H, I1, Zlm hk, ⟨rfl, kv, g1, rfl⟩, st', λb hb => (hf b hb).1⟩⟩
 done := by
  intro X hP hw hK hc i pins s Z H E I hf st hg
  subst hP hw hK
  obtain ⟨e, hi⟩ := hg
  obtain ⟨_, _, vs, rel, at_⟩ := ZmW I.hok e hep
  obtain ⟨f0, f1, f2, f3, f4, f5⟩ := hf it (by simp)
  rw [rel.length] at st hi
  exact wpAny_pyNext_dict_end (I.ok.hd hc) st at_ (YY hi) λh' eb => ⟨rfl, I.turned (t' := s.toks) (λb o hb e => eb b o hb e) f0 f1 f3 f4 f5⟩
 self := λ_ _ _ _ _ st h => wpAny_pyIter_keyiter st h
def Zhi (tl : TE) : TI := λZ H R => tl Z H λx H1 => ∃ a o kvs, x = .ref a /\ H1 a = some (.frz o (.dK kvs)) /\ R (Itd a o kvs) H1
section
variable {X : Cx} {tg l o i e value : Expr} {tl td ty tv : TE} {t : TA} {pos pos' p : Pos}
def Znd (hl : PE X l tl) : PI X tg l (Zhi tl) := by
 intro pins s Z H R I h
 refine ZR (hl pins s Z H _ I h) λv s1 ⟨x, H1, I1, r1, q1⟩ => ?_
 obtain ⟨a, o, kvs, e, hq, q⟩ := q1
 subst e
 cases r1
 obtain ⟨ho, z, hd, vs, rel, o', es, ep, ho', h1, h2, h3⟩ := (show ObjOk X.prog X.w H1 s1.heap a (.frz o (.dK kvs)) from I1.hok a _ hq)
 rw [ho] at ho'
 cases ho'
 refine wpAny_pyIter_dict hd ⟨o, es, ho, h1, h2, h3⟩ ?_
 refine ⟨s1.heap.objs.size, [s1.heap.objs.size], _, _, H1, rfl, I1.kept (t' := s1.toks) λb o e => Yf _ e, Zi7 a _ o kvs h2, ⟨_, Yn _ rfl, rfl, by rw [rel.length]; rfl⟩, λb hb => ?_, q⟩
 have e : b = s1.heap.objs.size := by simpa using hb
 subst e
 exact I1.fpOk (Yd _) (I1.hok.fresh (Yd _))
def ZgP (hl : QE X l tl) : QI X tg l (Zhi tl) := ⟨Znd hl.h⟩
def tDG (td ty : TE) : TE := λZ H Q => td Z H λx H1 => ty Z H1 λy H2 => ∃ a kvs k v, x = .ref a /\ Rd H2 a (.dK kvs) /\ y = kV k /\ Jw kvs k = some v /\ Q v H2
def JC (hu : X.A.units + 1 < cLine) (ho : QE X o td) (hi : QE X i ty) (hs : ZrT i := by intro _ _; rfl) : QE X (.Subscript o i pos) (tDG td ty) := ⟨by
 intro pins s Z H Q I h
 refine Zoj PySem.F.slot_dict_getitem.lookup hs (ZR (ho.h pins s Z H _ I h) λu s1 ⟨x, H1, I1, rx, q1⟩ => ZR (hi.h pins s1 Z H1 _ I1 q1) λiv s2 ⟨y, H2, I2, ry, a, kvs, k, v, ex, g, ey, hv, q2⟩ => ?_)
 subst ex
 obtain rfl : u = Value.ref a := rx
 have g' : DGet H2 a y (some v) := .inl ⟨kvs, k, g, ey, hv.symm⟩
 exact ⟨Zgf I2 g', Zif hu I2 g' ry λw' s3 I3 rw' => ⟨v, H2, I3, rw', q2⟩⟩⟩
def sDP (td ty tv : TE) : TS := λD Z H => tv Z H λv H1 => td Z H1 λx H2 => ty Z H2 λy H3 => ∃ a kvs k, x = .ref a /\ H3 a = some (.dK kvs) /\ y = kV k /\ kvs.length < 1000 /\ D.nx Z (upd H3 a (.dK (Jf kvs k v)))
def Zcv (hu : X.A.units + 1 < cLine) (ho : QE X o td) (hi : QE X i ty) (hv : QE X value tv) (hs : swapsWith value (some (.Subscript o i pos')) pos.line X.env = pure false := by rfl) : QS X (.Assign [.Subscript o i pos'] value pos) (sDP td ty tv) := ⟨by
 intro pins s Z H D I h
 refine wpAny_Assign_Subscript (ZR (hv.h pins s Z H _ I h) λr s1 ⟨v, H1, I1, rv, q1⟩ => ZR (ho.h pins s1 Z H1 _ I1 q1) λu s2 ⟨x, H2, I2, rx, q2⟩ => ZR (hi.h pins s2 Z H2 _ I2 q2) λiv s3 ⟨y, H3, I3, ry, a, kvs, k, ex, g, ey, hl, q3⟩ => ?_) hs
 subst ex ey
 obtain rfl : u = Value.ref a := rx
 exact Zja hu I3 (DPut.k g (Zfd (Ys hl))) ry rv λs4 I4 => ⟨Z, _, I4, q3⟩⟩
def tDI (neg : Bool) (ty td : TE) : TE := λZ H Q => ty Z H λy H1 => td Z H1 λx H2 => ∃ a kvs k, x = .ref a /\ Rd H2 a (.dK kvs) /\ y = kV k /\ Q (.bl (if neg = true then !(Jw kvs k).isSome else (Jw kvs k).isSome)) H2
def ZmO : QE X (.Dict [] [] pos) (λ_ H Q => ∀ p H2, H p = none -> Same H H2 -> H2 p = some (.dK []) -> Q (.ref p) H2) := ⟨λpins s Z H Q I h => Zl2 pins s Z H Q I λp hp => h p _ hp (ZG hp _) upd_same⟩
def Zhl : CallR X (.builtin "len") (λxs H Q => ∃ a kvs, xs = [.ref a] /\ Rd H a (.dK kvs) /\ Q (.int kvs.length) H) := by
 intro pins s Z H xs us Q I r h
 obtain ⟨a, kvs, rfl, e, q⟩ := h
 obtain ⟨u, rfl, ru⟩ := Jq r
 cases ru
 exact Zrs I e λt s' I' => ⟨.int kvs.length, H, I', ⟨t, rfl⟩, q⟩
def ZoZ (hg : Gl X "len") (hm : X.mg "len" = none) (ha : QA X [e] t) (hp : Zn e = true := by rfl) : QE X (.Call (.Name "len" p) [e] [] pos) (tCB (λxs H Q => ∃ a kvs, xs = [.ref a] /\ Rd H a (.dK kvs) /\ Q (.int kvs.length) H) t) :=
 ⟨ZaO Zhl hg hm PySem.boot_len ha.h (by decide) (by decide) (Zi hp) rfl⟩
def Zmv : List V -> Hp -> VK -> Prop := λxs H Q => ∃ a kvs, xs = [.ref a] /\ Rd H a (.dK kvs) /\ ∀ p o H2, H p = none -> Same H H2 -> H2 p = some (.frz o (.dK kvs)) -> Q (.ref p) H2
def ZmH : List V -> Hp -> VK -> Prop := λxs H Q => ∃ a kvs, xs = [.ref a] /\ Rd H a (.dK kvs) /\ ∀ p H2, H p = none -> Same H H2 -> H2 p = some (.dK kvs) -> Q (.ref p) H2
def Zh7 : CallR X (.type "dict") ZmH := by
 intro pins s Z H xs us Q I r h
 obtain ⟨a, kvs, rfl, e, q⟩ := h
 obtain ⟨u, rfl, ru⟩ := Jq r
 cases ru
 exact ZgW I e λp s' hp I' => ⟨.ref p, _, I', rfl, q p _ hp (ZG hp _) upd_same⟩
def Zib : CallR X (.type "dict") Zmv := by
 intro pins s Z H xs us Q I r h
 obtain ⟨a, kvs, rfl, e, q⟩ := h
 obtain ⟨u, rfl, ru⟩ := Jq r
 cases ru
 refine ZgW I e λp s' hp I' => ?_
 obtain ⟨o, I2⟩ := ZmQ I' (a := p) (kvs := kvs) upd_same
 rw [Zm4] at I2
 exact ⟨.ref p, _, I2, rfl, q p o _ hp (ZG hp _) upd_same⟩
def ZnA (hg : Gl X "dict") (hm : X.mg "dict" = none) (ha : QA X [e] t) (hp : Zn e = true := by rfl) : QE X (.Call (.Name "dict" p) [e] [] pos) (tCB Zmv t) := ⟨Zbo Zib hg hm (by decide +kernel) ha.h (by decide) (by decide) (Zi hp) rfl⟩
def ZeA (hg : Gl X "dict") (hm : X.mg "dict" = none) (ha : QA X [e] t) (hp : Zn e = true := by rfl) : QE X (.Call (.Name "dict" p) [e] [] pos) (tCB ZmH t) := ⟨Zbo Zh7 hg hm (by decide +kernel) ha.h (by decide) (by decide) (Zi hp) rfl⟩
def ZmF : List V -> Hp -> VK -> Prop := λxs H Q => ∃ a kvs, xs = [.ref a] /\ Rd H a (.dK kvs) /\ ∀ l H2, H l = none -> Same H H2 -> H2 l = some (.lst (kvs.map λkv => kV kv.1)) -> Q (.ref l) H2
def Zhs (hc : X.calm = true) : CallR X (.type "list") ZmF := by
 intro pins s Z H xs us Q I r h
 obtain ⟨a, kvs, rfl, e, q⟩ := h
 obtain ⟨u, rfl, ru⟩ := Jq r
 cases ru
 obtain ⟨z, hd, vs, rel, dd⟩ := JM I.hok e
 obtain ⟨ep, at_⟩ := dd.dictAt
 have hf : H s.heap.objs.size = none := I.hok.fresh (Yd _)
 refine kdl_call (kdl_dict hd) (I.ok.hd hc) at_ (by rw [<- rel.length]; exact z) λh' tk acc' c' kk hl ⟨hs, hacc⟩ => ?_
 refine ⟨.ref s.heap.objs.size, _, I.laid (o := .lst (kvs.map λkv => kV kv.1)) kk (Nat.le_refl _) (show ObjOk X.prog X.w _ h' _ (.lst (kvs.map λkv => kV kv.1)) from ⟨by rw [List.length_map]; exact z, acc'.toList, c', Zdt ?_ λi x u e1 e2 => ?_, by simpa using hl⟩), rfl, q _ _ hf (ZG hf _) upd_same⟩
 ·rw [List.length_map, rel.length]; simpa using hs.symm
 ·obtain ⟨k, x', g1, g2⟩ := hacc i u (by simpa using e2)
  have hi : i < kvs.length := by have := (List.getElem?_eq_some_iff.mp e1).1; simpa using this
  obtain ⟨kv, v, g3, g4⟩ := Zko rel hi
  rw [g1] at g4
  cases g4
  rw [Yi, g3] at e1
  cases e1
  exact Zlm g2
theorem ZfU (hg : Gl X "list") (hm : X.mg "list" = none) (ha : QA X [e] t) (hp : Zn e = true := by rfl) (hc : X.calm = true := by rfl) : QE X (.Call (.Name "list" p) [e] [] pos) (tCB ZmF t) := ⟨Zbo (Zhs hc) hg hm (by decide +kernel) ha.h (by decide) (by decide) (Zi hp) rfl⟩
end
def Zqw (g : TG) (tb : TS) (D : Ends) (Z : St) : V -> Hp -> Prop := λx H1 => ∃ a o kvs, x = .ref a /\ H1 a = some (.frz o (.dK kvs)) /\ ∃ W : Nat -> Nat -> St -> Hp -> Prop, (∃ m, W 0 m Z H1) /\ ∀ i m Z H, W i m Z H ->
 ((Itd a o kvs).stop i H /\ D.nx Z H) \/ ((Itd a o kvs).go i H /\ ∃ N : St -> Hp -> Prop, (∀ Z' H', N Z' H' -> ∃ m', m' < m /\ W (i + 1) m' Z' H') /\ ∀ x H', (Itd a o kvs).yld i H x H' -> g x Z H' λZ2 H2 => tb { D with nx := N, ct := N, bk := D.nx } Z2 H2)
theorem Zi6 {te : TE} {g : TG} {tb : TS} {D : Ends} {Z : St} {H : Hp} : Zks (Zhi te) g tb D Z H = te Z H (Zqw g tb D Z) := rfl
theorem ZlC {a : Addr} {o : Obj} {kvs : List (ZC × V)} {g : TG} {tb : TS} {D : Ends} {Z : St} {H : Hp} (Pv : Nat -> St -> Hp -> Prop) (h0 : Pv 0 Z H) (hl : ∀ i Z H, i <= kvs.length -> Pv i Z H -> H a = some (.frz o (.dK kvs)))
  (hs : ∀ i kv Z H, kvs[i]? = some kv -> Pv i Z H -> g (kV kv.1) Z H λZ2 H2 => tb { D with nx := Pv (i + 1), ct := Pv (i + 1), bk := D.nx } Z2 H2) (hd : ∀ Z H, Pv kvs.length Z H -> D.nx Z H) : Zqw g tb D Z (.ref a) H := by
 refine ⟨a, o, kvs, rfl, hl 0 Z H (Nat.zero_le _) h0, λi m Z H => m = kvs.length - i /\ i <= kvs.length /\ Pv i Z H, ⟨kvs.length, by simp, Nat.zero_le _, h0⟩, ?_⟩
 rintro i m Z H ⟨rfl, hi, p⟩
 have q := hl i Z H hi p
 by_cases hlt : i < kvs.length
 ·refine .inr ⟨⟨q, hlt⟩, Pv (i + 1), λZ' H' p' => ⟨kvs.length - (i + 1), by omega, rfl, hlt, p'⟩, λx H' y => ?_⟩
  obtain ⟨rfl, kv, hkv, rfl⟩ := y
  exact hs i kv Z _ hkv p
 ·have e : i = kvs.length := by omega
  subst e
  exact .inl ⟨⟨q, Yd _⟩, hd _ _ p⟩
def Zg0 {a : Addr} {o : Obj} {kvs : List (ZC × V)} {nt : Nat} {cp : St} {g : TG} {tt : TT} {te : TE} {H1 : Hp} {Q : VK} (Pv : Addr -> Nat -> List V -> Hp -> Prop) (h0 : ∀ acc H2, H1 acc = none -> Same H1 H2 -> H2 acc = some (.lst []) -> Pv acc 0 [] H2)
  (hl : ∀ acc i ys H, Pv acc i ys H -> H acc = some (.lst ys) /\ ys.length < 1000000 /\ H a = some (.frz o (.dK kvs)))
  (hs : ∀ acc i kv ys H os, H1 acc = none -> kvs[i]? = some kv -> Pv acc i ys H -> os.length = nt -> g (kV kv.1) (os ++ cp) H λτ H3 => ∃ os', os'.length = nt /\ τ = os' ++ cp /\ tt τ H3 λb H4 => if b = true then te τ H4 λv H5 => H5 acc = some (.lst ys) /\ Pv acc (i + 1) (ys ++ [v]) (upd H5 acc (.lst (ys ++ [v]))) else Pv acc (i + 1) ys H4)
  (hd : ∀ acc ys H, H1 acc = none -> Pv acc kvs.length ys H -> Q (.ref acc) H) : ZfC nt cp (Itd a o kvs) g tt te H1 Q := by
 intro acc H2 hn sm e
 refine ⟨λi m ys H => m = kvs.length - i /\ i <= kvs.length /\ Pv acc i ys H, ⟨kvs.length, by simp, Nat.zero_le _, h0 acc H2 hn sm e⟩, ?_⟩
 rintro i m ys H ⟨rfl, hi, p⟩
 obtain ⟨q1, q2, q3⟩ := hl acc i ys H p
 refine ⟨q1, ?_⟩
 by_cases hlt : i < kvs.length
 ·refine .inr ⟨⟨q3, hlt⟩, q2, Pv acc (i + 1), λys' H' p' => ⟨kvs.length - (i + 1), by omega, rfl, hlt, p'⟩, λos x H' ol y => ?_⟩
  obtain ⟨rfl, kv, hkv, rfl⟩ := y
  exact hs acc i kv ys _ os hn hkv p ol
 ·have e : i = kvs.length := by omega
  subst e
  exact .inl ⟨⟨q3, Yd _⟩, hd _ _ _ hn p⟩
def ZcN {K : PySem.W.Frag} {a : Addr} {xs : List V} {nt : Nat} {cp : St} {g : TG} {tt : TT} {te : TE} {H1 : Hp} {Q : VK} (Pv : Addr -> Nat -> List V -> Hp -> Prop) (h0 : ∀ acc H2, H1 acc = none -> Same H1 H2 -> H2 acc = some (.lst []) -> Pv acc 0 [] H2)
  (hl : ∀ acc i ys H, H1 acc = none -> Pv acc i ys H -> H acc = some (.lst ys) /\ ys.length < 1000000 /\ SqL K H a xs)
  (hs : ∀ acc i x ys H os, H1 acc = none -> xs[i]? = some x -> Pv acc i ys H -> os.length = nt -> g x (os ++ cp) H λτ H3 => ∃ os', os'.length = nt /\ τ = os' ++ cp /\ tt τ H3 λb H4 => if b = true then te τ H4 λv H5 => H5 acc = some (.lst ys) /\ Pv acc (i + 1) (ys ++ [v]) (upd H5 acc (.lst (ys ++ [v]))) else Pv acc (i + 1) ys H4)
  (hd : ∀ acc ys H, H1 acc = none -> Pv acc xs.length ys H -> Q (.ref acc) H) : ZfC nt cp (Itl K a) g tt te H1 Q := by
 intro acc H2 hn sm e
 refine ⟨λi m ys H => m = xs.length - i /\ i <= xs.length /\ Pv acc i ys H, ⟨xs.length, by simp, Nat.zero_le _, h0 acc H2 hn sm e⟩, ?_⟩
 rintro i m ys H ⟨rfl, hi, p⟩
 obtain ⟨q1, q2, q3⟩ := hl acc i ys H hn p
 refine ⟨q1, ?_⟩
 by_cases hlt : i < xs.length
 ·refine .inr ⟨⟨xs, xs[i], q3, by simp [hlt]⟩, q2, Pv acc (i + 1), λys' H' p' => ⟨xs.length - (i + 1), by omega, rfl, hlt, p'⟩, λos x H' ol y => ?_⟩
  obtain ⟨rfl, hy⟩ := y
  exact hs acc i x ys _ os hn (hy xs q3) p ol
 ·have e : i = xs.length := by omega
  subst e
  exact .inl ⟨⟨xs, q3, Yd _⟩, hd _ _ _ hn p⟩
def Itz (K : PySem.W.Frag) (a b : Addr) : It :=
  ⟨λi H => ∃ xs ys x y, SqL K H a xs /\ SqL K H b ys /\ xs[i]? = some x /\ ys[i]? = some y, λi H x H' => ∃ p u v, x = .ref p /\ H p = none /\ Same H H' /\ H' p = some (.tup [u, v]) /\ (∀ xs, SqL K H a xs -> xs[i]? = some u) /\ ∀ ys, SqL K H b ys -> ys[i]? = some v,
   λi H => ∃ xs ys, SqL K H a xs /\ SqL K H b ys /\ (xs.length <= i \/ ys.length <= i)⟩
def ZlY {P : Program} {w : World} {K : PySem.W.Frag} {es : List Expr} {x1} {pos : Pos} (a b z TI TO i1 i2 : Addr) (D : ZipApart z TI TO i1 i2 a b) :
  Turn P w K (.Tuple es x1 pos) (Itz K a b) [z, TI, TO, i1, i2] z (λi h => IsZip h z TI TO .none /\ IsPair h TI (.ref i1) (.ref i2) /\ (∃ u v, IsPair h TO u v) /\ h.IsListIter i1 a i /\ h.IsListIter i2 b i) where
 mem := by simp
 obj := λi h st c hc => by
  obtain ⟨hz, hTI, ⟨u, v, hTO⟩, ⟨o1, e1, c1, d1⟩, o2, e2, c2, d2⟩ := st
  simp only [List.mem_cons, List.not_mem_nil, or_false] at hc
  rcases hc with rfl | rfl | rfl | rfl | rfl
  ·exact ⟨_, hz, λv z => by cases z⟩
  ·exact ⟨_, hTI, λv z => by cases z⟩
  ·exact ⟨_, hTO, λv z => by cases z⟩
  ·exact ⟨_, e1, λv z => by rw [d1] at z; cases z⟩
  ·exact ⟨_, e2, λv z => by rw [d2] at z; cases z⟩
 keep := λi h h' st k => by
  obtain ⟨hz, hTI, ⟨u, v, hTO⟩, h1, h2⟩ := st
  exact ⟨k z (by simp) _ hz, k TI (by simp) _ hTI, ⟨u, v, k TO (by simp) _ hTO⟩, h1.at λo x => k i1 (by simp) o x, h2.at λo x => k i2 (by simp) o x⟩
 item := by
  intro X hP hw hK hc i pins s Z H E I hf st hg
  subst hP hw hK
  obtain ⟨hz, hTI, ⟨u0, v0, hTO⟩, h1, h2⟩ := st
  obtain ⟨xs, ys, x, y, hqa, hqb, hx, hy⟩ := hg
  obtain ⟨its, rv, p, _⟩ := I.list hqa
  obtain ⟨its2, rv2, p2, _⟩ := I.list hqb
  obtain ⟨u, hu, ru⟩ := rv.get hx
  obtain ⟨v, hv, rv'⟩ := rv2.get hy
  have hn : H s.heap.objs.size = none := I.hok.fresh (Yd _)
  have lt : ∀ c ∈ [z, TI, TO, i1, i2], c < s.heap.objs.size := λc hc => by
   obtain ⟨o1, e1, _⟩ := h1
   obtain ⟨o2, e2, _⟩ := h2
   simp only [List.mem_cons, List.not_mem_nil, or_false] at hc
   rcases hc with rfl | rfl | rfl | rfl | rfl
   ·exact Ye hz
   ·exact Ye hTI
   ·exact Ye hTO
   ·exact Ye e1
   ·exact Ye e2
  refine wpAny_pyNext_zip_item D hz hTI hTO h1 h2 p.isList p2.isList (x := u) (y := v) (by simpa using hu) (by simpa using hv) λh' a1 a2 a3 a4 a5 a6 kk => ?_
  refine ⟨_, rfl, wpAny_letOwnedTupleGo_zip (s := { s with heap := h' }) a1 λh2' hz2 sb => ?_⟩
  have sb2 : ∀ c, c ≠ z -> h2'.get? c = h'.get? c := sb.2
  have nz : s.heap.objs.size ≠ z := Nat.ne_of_gt (lt z (by simp))
  have kt : h2'.get? s.heap.objs.size = some { cls := .type "tuple", data := .seq #[u, v] } := (sb2 _ nz).trans a5
  have I1 : Inv X pins Z (upd H s.heap.objs.size (.tup [x, y])) { s with heap := h2', toks := s.toks } := by
   refine ZcT (ch := [z, TI, TO, i1, i2]) I (λc o hb q => ?_) hf ?_
   ·simp only [List.mem_cons, List.not_mem_nil, or_false, not_or] at hb
    rw [sb2 c hb.1]
    exact kk c o hb.1 hb.2.2.1 hb.2.2.2.1 hb.2.2.2.2 q
   ·exact ⟨by show 2 <= sizeLine; decide, [u, v], .cons ru (.cons rv' .nil), ⟨_, kt, rfl, _, rfl⟩⟩
  refine ⟨.ref s.heap.objs.size, _, I1, rfl, ⟨_, x, y, rfl, hn, ZG hn _, upd_same, λzs hz => by rw [I.list_inj hz hqa]; exact hx, λzs hz => by rw [I.list_inj hz hqb]; exact hy⟩, ⟨hz2, (sb2 _ D.TIz).trans (kk _ _ D.TIz D.TITO D.TIi1 D.TIi2 hTI), ⟨u, v, (sb2 _ D.TOz).trans a2⟩, ?_, ?_⟩, λc hc => ?_⟩
  ·obtain ⟨o, q, r⟩ := a3
   exact ⟨o, (sb2 _ D.i1z).trans q, r⟩
  ·obtain ⟨o, q, r⟩ := a4
   exact ⟨o, (sb2 _ D.i2z).trans q, r⟩
  ·rw [Ze (Yl (lt c hc))]
   exact (hf c hc).1
 done := by
  intro X hP hw hK hc i pins s Z H E I hf st hg
  subst hP hw hK
  obtain ⟨hz, hTI, ⟨u0, v0, hTO⟩, h1, h2⟩ := st
  obtain ⟨xs, ys, hqa, hqb, he⟩ := hg
  obtain ⟨its, rv, p, _⟩ := I.list hqa
  obtain ⟨its2, rv2, p2, _⟩ := I.list hqb
  have l1 := rv.length
  have l2 := rv2.length
  refine wpAny_pyNext_zip_end (I.ok.hd hc) D hz hTI hTO h1 h2 p.isList p2.isList (he.imp (λz => by simp; omega) λz => by simp; omega) λh' eb => ⟨rfl, Zkc (t' := s.toks) (ch := [z, TI, TO, i1, i2]) I (λc o hb q => ?_) hf⟩
  simp only [List.mem_cons, List.not_mem_nil, or_false, not_or] at hb
  exact eb c o hb.1 hb.2.2.1 hb.2.2.2.1 hb.2.2.2.2 q
 self := λ_ _ _ _ _ st h => wpAny_pyIter_zip st.1 h
def Zil (n a b : Nat) (ha : a < n) (hb : b < n) : ZipApart (n + 4) (n + 2) (n + 3) n (n + 1) a b := by
 constructor <;> (intro z; have z' := Vp z; have z'' := Vp z.symm; omega)
def Zrm (K : PySem.W.Frag) (ta : TA) : TI := λZ H R => ta Z H λvs H1 => ∃ a b, vs = [.ref a, .ref b] /\ (∃ xs, SqL K H1 a xs) /\ (∃ ys, SqL K H1 b ys) /\ R (Itz K a b) H1
def Zkw : bootBuiltins "zip" = some (.type "zip") := by decide +kernel
section
variable {X : Cx} {l m : Expr} {ta : TA} {p pos pos' : Pos} {es : List Expr}
def Zph {x1} (hg : Gl X "zip") (hm : X.mg "zip" = none) (ha : PA X [l, m] ta) (hs : starEach [l, m] X.env = [(false, eval l X.env), (false, eval m X.env)] := by rfl) (hs2 : starEach [m] X.env = [(false, eval m X.env)] := by rfl) : PI X (.Tuple es x1 pos') (.Call (.Name "zip" p) [l, m] [] pos) (Zrm X.K ta) := by
 intro pins s Z H R I h
 refine Call_ (Jp I hg hm Zkw (Y9 (ZR (ha pos pins s Z H _ I h) λus s1 ⟨vs, H1, I1, r1, q1⟩ => ?_) (by rw [hs, hs2]) (by rw [hs2]; rfl)))
 obtain ⟨a, b, e, ⟨xs, hqa⟩, ⟨ys, hqb⟩, q⟩ := q1
 subst e
 obtain ⟨u, v, rfl, ru, rv⟩ := ZhS r1
 cases ru
 cases rv
 obtain ⟨its, _, pl, _⟩ := I1.list hqa
 obtain ⟨its2, _, pl2, _⟩ := I1.list hqb
 have la : a < s1.heap.objs.size := by obtain ⟨o, n, e, _⟩ := pl; exact Ye e
 have lb : b < s1.heap.objs.size := by obtain ⟨o, n, e, _⟩ := pl2; exact Ye e
 refine call_zip_2 pl.isList pl2.isList λh' hz hTI hTO g1 g2 hsz kk => ?_
 have I2 : Inv X pins Z H1 { s1 with heap := h' } := I1.kept (t' := s1.toks) kk
 have D := Zil _ _ _ la lb
 refine wpAny_pyIter_zip (s := { s1 with heap := h' }) hz ⟨_, [s1.heap.objs.size + 4, s1.heap.objs.size + 2, s1.heap.objs.size + 3, s1.heap.objs.size, s1.heap.objs.size + 1], _, _, H1, rfl, I2, ZlY a b _ _ _ _ _ D, ⟨hz, hTI, ⟨_, _, hTO⟩, g1, g2⟩, λc hc => ?_, q⟩
 have hb' : s1.heap.objs.size <= c := by
  simp only [List.mem_cons, List.not_mem_nil, or_false] at hc
  rcases hc with rfl | rfl | rfl | rfl | rfl
  ·exact V8 _ _
  ·exact V8 _ _
  ·exact V8 _ _
  ·exact Yd _
  ·exact V8 _ _
 exact I1.fpOk hb' (I1.hok.fresh hb')
def Zpl {x1} (hg : Gl X "zip") (hm : X.mg "zip" = none) (ha : QA X [l, m] ta) (hp : Zn l = true := by rfl) (hq : Zn m = true := by rfl) : QI X (.Tuple es x1 pos') (.Call (.Name "zip" p) [l, m] [] pos) (Zrm X.K ta) :=
 ⟨Zph hg hm ha.h (by rw [Zi hp, Zi hq]; rfl) (Zi hq)⟩
end
def ZrX (K : PySem.W.Frag) (g : TG) (tb : TS) (D : Ends) (Z : St) : List V -> Hp -> Prop := λvs H1 => ∃ a b, vs = [.ref a, .ref b] /\ (∃ xs, SqL K H1 a xs) /\ (∃ ys, SqL K H1 b ys) /\ ∃ W : Nat -> Nat -> St -> Hp -> Prop, (∃ m, W 0 m Z H1) /\ ∀ i m Z H, W i m Z H ->
 ((Itz K a b).stop i H /\ D.nx Z H) \/ ((Itz K a b).go i H /\ ∃ N : St -> Hp -> Prop, (∀ Z' H', N Z' H' -> ∃ m', m' < m /\ W (i + 1) m' Z' H') /\ ∀ x H', (Itz K a b).yld i H x H' -> g x Z H' λZ2 H2 => tb { D with nx := N, ct := N, bk := D.nx } Z2 H2)
theorem ZgX {K : PySem.W.Frag} {ta : TA} {g : TG} {tb : TS} {D : Ends} {Z : St} {H : Hp} : Zks (Zrm K ta) g tb D Z H = ta Z H (ZrX K g tb D Z) := rfl
theorem Zjx {K : PySem.W.Frag} {a b : Addr} {xs ys : List V} {g : TG} {tb : TS} {D : Ends} {Z : St} {H : Hp} (hxy : xs.length = ys.length) (Pv : Nat -> St -> Hp -> Prop) (h0 : Pv 0 Z H) (hl : ∀ i Z H, i <= xs.length -> Pv i Z H -> SqL K H a xs /\ SqL K H b ys)
  (hs : ∀ i x y Z H p H', xs[i]? = some x -> ys[i]? = some y -> Pv i Z H -> H p = none -> Same H H' -> H' p = some (.tup [x, y]) -> g (.ref p) Z H' λZ2 H2 => tb { D with nx := Pv (i + 1), ct := Pv (i + 1), bk := D.nx } Z2 H2) (hd : ∀ Z H, Pv xs.length Z H -> D.nx Z H) :
  ZrX K g tb D Z [.ref a, .ref b] H := by
 refine ⟨a, b, rfl, ⟨xs, (hl 0 Z H (Nat.zero_le _) h0).1⟩, ⟨ys, (hl 0 Z H (Nat.zero_le _) h0).2⟩, λi m Z H => m = xs.length - i /\ i <= xs.length /\ Pv i Z H, ⟨xs.length, by simp, Nat.zero_le _, h0⟩, ?_⟩
 rintro i m Z H ⟨rfl, hi, p⟩
 obtain ⟨qa, qb⟩ := hl i Z H hi p
 by_cases hlt : i < xs.length
 ·have hlt2 : i < ys.length := by omega
  refine .inr ⟨⟨xs, ys, xs[i], ys[i], qa, qb, by simp [hlt], by simp [hlt2]⟩, Pv (i + 1), λZ' H' p' => ⟨xs.length - (i + 1), by omega, rfl, hlt, p'⟩, λx H' y => ?_⟩
  obtain ⟨c, u, v, rfl, hn, sm, e, hu, hv⟩ := y
  exact hs i u v Z H c H' (hu xs qa) (hv ys qb) p hn sm e
 ·have e : i = xs.length := by omega
  subst e
  exact .inl ⟨⟨xs, ys, qa, qb, .inl (Yd _)⟩, hd _ _ p⟩
end My
namespace My
open PySem PySem.Spec
open PyProof.Rows hiding St
def Rise (l : List Nat) : Prop := l.Pairwise (· < ·)
theorem Rise.at {l : List Nat} (h : Rise l) {i j : Nat} {x y : Nat} (hi : l[i]? = some x) (hj : l[j]? = some y) (hij : i < j) : x < y := by
 obtain ⟨hi1, rfl⟩ := Yj.mp hi
 obtain ⟨hj1, rfl⟩ := Yj.mp hj
 exact List.pairwise_iff_getElem.mp h i j hi1 hj1 hij
def Zl3 (xs : Array Nat) (j : Nat) (h : Rise xs.toList) : ∀ (f lo hi : Nat), hi - lo <= f -> lo <= hi -> hi <= xs.size -> (∀ i x, i < lo -> xs[i]? = some x -> x < j) -> (∀ i x, hi <= i -> xs[i]? = some x -> j <= x) ->
  SetTable.below.go xs j f lo hi <= xs.size /\ (∀ i x, i < SetTable.below.go xs j f lo hi -> xs[i]? = some x -> x < j) /\ ∀ i x, SetTable.below.go xs j f lo hi <= i -> xs[i]? = some x -> j <= x := by
 intro f
 induction f with
 | zero =>
  intro lo hi h1 h2 h3 h4 h5
  have : lo = hi := by omega
  subst this
  unfold SetTable.below.go
  exact ⟨h3, h4, h5⟩
 | succ f ih =>
  intro lo hi h1 h2 h3 h4 h5
  unfold SetTable.below.go
  by_cases c : lo < hi
  ·rw [if_pos c]
   have hm : (lo + hi) / 2 < xs.size := by omega
   have e : xs[(lo + hi) / 2]? = some xs[(lo + hi) / 2] := Vb hm
   have e' : xs.toList[(lo + hi) / 2]? = some xs[(lo + hi) / 2] := by rw [YH]; exact e
   dsimp only
   rw [VD, e, Option.getD_some]
   by_cases c2 : xs[(lo + hi) / 2] < j
   ·rw [if_pos c2]
    refine ih _ _ (by omega) (by omega) h3 (λi x hi1 hx => ?_) h5
    by_cases c3 : i = (lo + hi) / 2
    ·subst c3; rw [e] at hx; cases hx; exact c2
    ·have := h.at (by rw [YH]; exact hx) e' (show i < (lo + hi) / 2 by omega)
     omega
   ·rw [if_neg c2]
    refine ih _ _ (by omega) (by omega) (by omega) h4 λi x hi1 hx => ?_
    by_cases c3 : i = (lo + hi) / 2
    ·subst c3; rw [e] at hx; cases hx; omega
    ·have := h.at e' (by rw [YH]; exact hx) (show (lo + hi) / 2 < i by omega)
     omega
  ·rw [if_neg c]
   have : lo = hi := by omega
   subst this
   exact ⟨h3, h4, h5⟩
def Zd2 (xs : Array Nat) (j : Nat) (h : Rise xs.toList) : SetTable.below xs j <= xs.size /\ (∀ i x, i < SetTable.below xs j -> xs[i]? = some x -> x < j) /\ ∀ i x, SetTable.below xs j <= i -> xs[i]? = some x -> j <= x :=
 Zl3 xs j h xs.size 0 xs.size (by omega) (YA _) (Yd _) (λi x hi => absurd hi (Yaa _)) λi x hi hx => by
  rw [Array.getElem?_eq_none hi] at hx; cases hx
def Zll {xs : Array Nat} {j : Nat} (h : Rise xs.toList) (hj : ¬ xs[SetTable.below xs j]? = some j) : Rise (SetTable.insertAt xs (SetTable.below xs j) j).toList := by
 obtain ⟨h1, h2, h3⟩ := Zd2 xs j h
 rw [SetTable.toList_insertAt]
 generalize hp : SetTable.below xs j = p at *
 have hd : ∀ y ∈ xs.toList.drop p, j < y := λy hy => by
  obtain ⟨i, hi⟩ := Vu hy
  rw [List.getElem?_drop, YH] at hi
  have h4 := h3 _ _ (V8 p i) hi
  by_cases c : y = j
  ·subst c
   by_cases ci : i = 0
   ·subst ci; exact absurd hi hj
   ·have hps : p < xs.size := by
     have := (Array.getElem?_eq_some_iff.mp hi).1
     omega
    have e := Vb hps
    have h5 := h3 _ _ (Yd p) e
    have h6 := h.at (by rw [YH]; exact e) (by rw [YH]; exact hi) (show p < p + i by omega)
    omega
  ·omega
 have ht : ∀ y ∈ xs.toList.take p, y < j := λy hy => by
  obtain ⟨i, hi⟩ := Vu hy
  have hip : i < p := by have := (Yj.mp hi).1; rw [Y4] at this; omega
  rw [List.getElem?_take, if_pos hip, YH] at hi
  exact h2 _ _ hip hi
 refine List.pairwise_append.mpr ⟨h.sublist (Vw _ _), List.pairwise_cons.mpr ⟨hd, h.sublist (List.drop_sublist _ _)⟩, λa ha b hb => ?_⟩
 rcases Ym.mp hb with rfl | hb
 ·exact ht a ha
 ·exact Nat.lt_trans (ht a ha) (hd b hb)
def TOk (b : Bool) (t : SetTable) : Prop := Rise t.place.toList /\ t.dummies = #[] /\ t.led = b
def ZhQ (n : Nat) : Rise (Array.range n).toList := by
 rw [Array.toList_range]
 exact List.pairwise_lt_range
def TOk.standIn {b : Bool} {t : SetTable} (h : TOk b t) (n : Nat) : TOk b (t.standIn n) := ⟨ZhQ n, rfl, h.2.2⟩
theorem TOk.orStandIn {b : Bool} {t : SetTable} (h : TOk b t) (n : Nat) : TOk b (t.orStandIn n) := by
 unfold SetTable.orStandIn
 split
 ·exact h
 ·exact h.standIn n
def Zm8 (j : Nat) : SetTable.has #[] j = false := rfl
def ZhN {t : SetTable} (h : t.dummies = #[]) (j : Nat) : (t.slot j = .empty /\ ¬ t.place[SetTable.below t.place j]? = some j) \/ ∃ i, t.slot j = .live i := by
 unfold SetTable.slot
 dsimp only
 by_cases c : (t.place[SetTable.below t.place j]? == some j) = true
 ·rw [if_pos c]
  exact .inr ⟨_, rfl⟩
 ·rw [if_neg c, h, Zm8]
  exact .inl ⟨rfl, λz => c (by rw [z]; exact beq_self_eq_true _)⟩
def Zml {t : SetTable} (h : t.dummies = #[]) (ha : Nat -> Int) (x : Int) : ∀ (f : Nat) (p : SetTable.Probe) (j : Nat) (d : Option Nat), p.dummy = none -> SetTable.probe.go t ha x f p = some (.empty j d) -> d = none /\ ¬ t.place[SetTable.below t.place j]? = some j := by
 intro f
 induction f with
 | zero => intro p j d _ e; unfold SetTable.probe.go at e; cases e
 | succ f ih =>
  intro p j d hp e
  unfold SetTable.probe.go at e
  have adv : (t.advance p).dummy = none := by
   unfold SetTable.advance
   split
   ·exact hp
   ·exact hp
  rcases ZhN h p.j with ⟨c, c2⟩ | ⟨i, c⟩
  ·rw [c] at e
   cases e
   exact ⟨hp, c2⟩
  ·rw [c] at e
   dsimp only at e
   split at e
   ·cases e
   ·exact ih _ _ _ adv e
def Zgo {t : SetTable} (h : t.dummies = #[]) {x : Int} {j : Nat} {b : Bool} (e : t.freeSlot x = some (j, b)) : b = false /\ ¬ t.place[SetTable.below t.place j]? = some j := by
 unfold SetTable.freeSlot at e
 split at e
 ·rename_i j' d q
  obtain ⟨rfl, h2⟩ := Zml h _ _ _ _ _ _ rfl q
  cases e
  exact ⟨rfl, h2⟩
 ·cases e
def TOk.lay {b : Bool} {t : SetTable} (h : TOk b t) (es : Array (Int × Value)) (x : Int) (v : Value) : TOk b (layNew t es x v).2.1 := by
 unfold layNew
 split
 ·rename_i j d q
  have h2 := (Zgo h.2.1 q).2
  dsimp only
  have k : TOk b (t.put j).1 := ⟨Zll h.1 h2, by show (if SetTable.has t.dummies j then _ else t.dummies) = #[]; rw [h.2.1]; rfl, h.2.2⟩
  exact k.orStandIn _
 ·exact h.standIn _
def TOk.relay {b : Bool} {t : SetTable} (h : TOk b t) (es : Array (Int × Value)) (n : Nat) : TOk b (relayAll t es n).2.1 := by
 unfold relayAll
 split
 ·rename_i t' order q
  dsimp only
  split
  ·unfold SetTable.relaid SetTable.laid at q
   cases ho : SetTable.layClean (SetTable.sizeAbove n - 1) (es.map (·.1)) with
   | none => rw [ho] at q; cases q
   | some owner =>
    rw [ho] at q
    simp only [Option.bind_eq_bind, Option.bind_some, Option.pure_def, Option.some.injEq, Prod.mk.injEq] at q
    obtain ⟨rfl, _⟩ := q
    refine ⟨?_, rfl, h.2.2⟩
    show Rise (List.map (λq : Nat × Nat => q.1) _).toArray.toList
    have key : ∀ (g : Nat -> Option Nat) (l : List Nat), l.Pairwise (· < ·) -> ((l.filterMap λj => (g j).map (j, ·)).map (·.1)).Sublist l := by
     intro g l _
     induction l with
     | nil => exact .slnil
     | cons a l ih =>
      rename_i hp
      rw [YaJ]
      cases g a with
      | none => exact (ih (List.pairwise_cons.mp hp).2).cons a
      | some y => exact (ih (List.pairwise_cons.mp hp).2).cons₂ a
    exact List.pairwise_lt_range.sublist (key (λj => owner.getD j none) _ List.pairwise_lt_range)
  ·exact h.standIn _
 ·exact h.standIn _
section
variable {prog : Program} {w : World} {A : Around} {E : Value -> Shared -> Prop} {s : Shared}
def byT (w : World) : Bool := w.params.followText "set-order"
def JA (e : Int × Value) : Int := match e.2 with
 | .int k _ => k
 | _ => 0
def AllI (prog : Program) (w : World) (es : List (Int × Value)) : Prop := ∀ e ∈ es, ∃ (k : Int) (t : Tok), e.2 = .int k t /\ e.1 = (intKind prog w).hash k
def AllI.elems {es : List (Int × Value)} (h : AllI prog w es) : ElemsOf (intKind prog w) es := λe he => by
 obtain ⟨k, t, h1, h2⟩ := h e he
 rw [h1]
 exact ⟨⟨k, intKind_is _ _ _ _, h2⟩, rfl⟩
def AllI.perm {es es' : List (Int × Value)} (h : AllI prog w es) (p : es'.Perm es) : AllI prog w es' := λe he => h e (p.mem_iff.mp he)
def AllI.is {es : List (Int × Value)} (h : AllI prog w es) {e : Int × Value} (he : e ∈ es) (k : Int) : (intKind prog w).is k e.2 = true ↔ k = JA e := by
 obtain ⟨k', t, h1, h2⟩ := h e he
 have h3 : JA e = k' := by unfold JA; rw [h1]
 rw [h1, KeyKind.is_eq_decide (intKind_is _ _ k' t) k, Ve, h3]
def SetI (prog : Program) (w : World) (h : Heap) (a : Addr) (S : Int -> Prop) (n : Nat) : Prop :=
 ∃ o es ep t, h.get? a = some o /\ o.ExactSet /\ o.data = .set es ep t /\ TOk (!byT w) t /\ t.fits es.size = true /\ AllI prog w es.toList /\ (es.toList.map JA).Nodup /\ (∀ k, k ∈ es.toList.map JA ↔ S k) /\ es.size <= n
theorem SetI.keep {h h' : Heap} {a : Addr} {S : Int -> Prop} {n : Nat} (x : SetI prog w h a S n) (hk : ∀ o, h.get? a = some o -> h'.get? a = some o) : SetI prog w h' a S n :=
 let ⟨o, es, ep, t, ho, r⟩ := x; ⟨o, es, ep, t, hk o ho, r⟩
theorem SetI.lt {h : Heap} {a : Addr} {S : Int -> Prop} {n : Nat} (x : SetI prog w h a S n) : a < h.objs.size := let ⟨_, _, _, _, ho, _⟩ := x; Ye ho
def SetI.store {h : Heap} {a : Addr} {o : Obj} {es : Array (Int × Value)} {ep : Nat} {t : SetTable} {es' : Array (Int × Value)} {t' : SetTable} {S : Int -> Prop} {n : Nat} (ho : h.get? a = some o) (hex : o.ExactSet) (hd : o.data = .set es ep t)
  (h1 : TOk (!byT w) t') (h2 : t'.fits es'.size = true) (h3 : AllI prog w es'.toList) (h4 : (es'.toList.map JA).Nodup) (h5 : ∀ k, k ∈ es'.toList.map JA ↔ S k) (h6 : es'.size <= n) :
  (h.update a (Obj.putSet es' t')).get? a = some { o with data := .set es' (ep + 1) t' } /\ SetI prog w (h.update a (Obj.putSet es' t')) a S n := by
 have hg : (h.update a (Obj.putSet es' t')).get? a = some { o with data := .set es' (ep + 1) t' } := by
  have := Yar (Obj.putSet es' t') ho (by rw [putSet_of es' t' hd]; rfl)
  rw [putSet_of es' t' hd] at this; exact this
 exact ⟨hg, _, es', ep + 1, t', hg, hex, rfl, h1, h2, h3, h4, h5, h6⟩
def Zis {es : List (Int × Value)} (h : AllI prog w es) {k : Int} (e : es.findIdx? (λe => (intKind prog w).is k e.2) = none) : k ∉ es.map JA := λhm => by
 obtain ⟨x, hx, rfl⟩ := Yk.mp hm
 have := List.findIdx?_eq_none_iff.mp e x hx
 rw [(h.is hx _).mpr rfl] at this
 cases this
def Zij {es : List (Int × Value)} (h : AllI prog w es) {k : Int} {j : Nat} (e : es.findIdx? (λe => (intKind prog w).is k e.2) = some j) : k ∈ es.map JA := by
 obtain ⟨hj, hp, _⟩ := List.findIdx?_eq_some_iff_getElem.mp e
 exact Yk.mpr ⟨_, YI hj, ((h.is (YI hj) k).mp hp).symm⟩
def Zjk {g : Bool -> Sem Unit} (hg : ∀ (b : Bool) (s₁ : Shared) (Q' : Unit -> Shared -> Prop), Q' () s₁ -> wpAny (model prog w) A (g b) Q' E s₁) {a : Addr} {o : Obj} {es : Array (Int × Value)} {ep : Nat} {t : SetTable} (ho : s.heap.get? a = some o) (hex : o.ExactSet)
  (hd : o.data = .set es ep t) {es1 : Array (Int × Value)} {t2 : SetTable} {S : Int -> Prop} {n : Nat} (h1 : TOk (!byT w) t2) (h2 : t2.fits es1.size = true) (h3 : AllI prog w es1.toList) (h4 : (es1.toList.map JA).Nodup) (h5 : ∀ k, k ∈ es1.toList.map JA ↔ S k)
  (h6 : es1.size <= n) (hn : n < scanBound) {c : Bool} {R : Option Bool -> Shared -> Prop} (h : ∀ h', Heap.SameBut a s.heap h' -> SetI prog w h' a S n -> R (some true) { s with heap := h' }) :
  wpAny (model prog w) A (do
    storeSet a es1 t2
    if c = true then do
      g (relayAll t2 es1 (SetTable.grown es1.size)).2.2
      storeSet a (relayAll t2 es1 (SetTable.grown es1.size)).1 (relayAll t2 es1 (SetTable.grown es1.size)).2.1
      pure (some true)
     else pure (some true)) R E s := by
 have hs1 : es1.size <= sizeLine := fits_of_scanBound (Yz h6 hn)
 refine Ya (wpAny_storeSet_of ho hd ?_ hs1)
 obtain ⟨ho1, hS1⟩ := SetI.store (prog := prog) (w := w) ho hex hd h1 h2 h3 h4 h5 h6
 have sb1 := Yax s.heap a (Obj.putSet es1 t2)
 cases c with
 | false =>
  rw [if_neg (by decide)]
  exact Yb (h _ sb1 hS1)
 | true =>
  rw [if_pos rfl]
  have hp := relayAll_perm t2 es1 (SetTable.grown es1.size)
  have hf := relayAll_fits t2 es1 (SetTable.grown es1.size)
  have ht := h1.relay es1 (SetTable.grown es1.size)
  generalize relayAll t2 es1 (SetTable.grown es1.size) = Rl at hp hf ht ⊢
  obtain ⟨es2, t3, gave⟩ := Rl
  dsimp only at hp hf ht ⊢
  have hz : es2.size = es1.size := by rw [<- YL, hp.length_eq, YL]
  refine Ya (hg _ _ _ (Ya (wpAny_storeSet_of ho1 rfl ?_ (by rw [hz]; exact hs1))))
  have kp := hp.map JA
  obtain ⟨_, hS2⟩ := SetI.store (prog := prog) (w := w) (S := S) (n := n) ho1 hex rfl ht hf (h3.perm hp) (kp.nodup_iff.mpr h4) (λk => (kp.mem_iff).trans (h5 k)) (by rw [hz]; exact h6)
  exact Yb (h _ (sb1.trans (Yax _ a _)) hS2)
def ZiX {a : Addr} {S : Int -> Prop} {n : Nat} {k : Int} {tk : Tok} {Q : Bool -> Shared -> Prop} (hS : SetI prog w s.heap a S n) (hn : n + 1 < scanBound) (h : ∀ h' r, Heap.SameBut a s.heap h' -> SetI prog w h' a (λk' => S k' \/ k' = k) (n + 1) -> Q r { s with heap := h' }) :
  wpAny (model prog w) A (setAddHashed a (.int k tk) ((intKind prog w).hash k)) Q E s := by
 obtain ⟨o, es, ep, t, ho, hex, hd, hT, hf, hA, hN, hM, hz⟩ := hS
 have hb : es.size < scanBound := by omega
 unfold setAddHashed setAddHashedIn
 refine YD (Ya (Vo ho hd hf ?_))
 dsimp only
 rw [byScan_of (x := .int k tk) rfl hb hA.elems]
 simp only [↓reduceIte]
 unfold setAddByScan
 refine Ya (Ya (Vr (Ya (wpAny_setScan_of (intKind_is _ _ k tk) ho hd hf hA.elems ?_))))
 cases hr : List.findIdx? (λe => (intKind prog w).is k e.2) es.toList with
 | some j =>
  dsimp only
  have hk := Zij hA hr
  refine Yb (Yb ?_)
  have := h s.heap false (Heap.SameBut.refl a s.heap) ⟨o, es, ep, t, ho, hex, hd, hT, hf, hA, hN, λk' => (hM k').trans ⟨.inl, λz => z.elim id λe => (hM k').mp (e ▸ hk)⟩, Nat.le_succ_of_le hz⟩
  exact this
 | none =>
  dsimp only
  have hk := Zis hA hr
  have hperm := layNew_perm t es ((intKind prog w).hash k) (.int k tk)
  have hfits := layNew_fits t es ((intKind prog w).hash k) (.int k tk)
  have htab := hT.lay es ((intKind prog w).hash k) (.int k tk)
  generalize layNew t es ((intKind prog w).hash k) (.int k tk) = Ly at hperm hfits htab ⊢
  obtain ⟨es1, t1, wasD, gave⟩ := Ly
  dsimp only at hperm hfits htab ⊢
  rw [Array.toList_push] at hperm
  have kp : (es1.toList.map JA).Perm (es.toList.map JA ++ [k]) := by have := hperm.map JA; rw [YW] at this; exact this
  have hA1 : AllI prog w es1.toList := λe he => by
   rcases Yu.mp (hperm.mem_iff.mp he) with he | he
   ·exact hA e he
   ·rw [YB.mp he]; exact ⟨k, tk, rfl, rfl⟩
  have hN1 : (es1.toList.map JA).Nodup := kp.nodup_iff.mpr (List.nodup_append.mpr ⟨hN, by simp, λx hx y hy => by rw [List.mem_singleton.mp hy]; intro e; exact hk (e ▸ hx)⟩)
  have hM1 : ∀ k', k' ∈ es1.toList.map JA ↔ (S k' \/ k' = k) := λk' => by rw [kp.mem_iff, Yu, hM k', YB]
  have hz1 : es1.size <= n + 1 := by rw [<- Array.length_toList, hperm.length_eq, List.length_append, Array.length_toList]; simpa using hz
  have gw : ∀ (b : Bool) (s₁ : Shared) (Q' : Unit -> Shared -> Prop), Q' () s₁ -> wpAny (model prog w) A (match b with | true => rule "set.scan.the-table-gave-way" | false => pure ()) Q' E s₁ :=
   λb s₁ Q' hq => by cases b <;> first | exact Yb hq | exact Vr hq
  refine Ya (gw _ _ _ ?_)
  have fin : ∀ h', Heap.SameBut a s.heap h' -> SetI prog w h' a (λk' => S k' \/ k' = k) (n + 1) -> Q true { s with heap := h' } := λh' => h h' true
  split
  ·refine Ya ?_
   rw [hashByValue_scannable 8 (x := .int k tk) rfl]
   refine Yb ?_
   refine Zjk (λb s₁ Q' hq => by cases b <;> first | exact Yb hq | exact Vr hq) ho hex hd (S := λk' => S k' \/ k' = k) (n := n + 1) ?_ ?_ hA1 hN1 hM1 hz1 hn λh' sb x => Yb (fin h' sb x)
   ·exact htab
   ·exact hfits
  ·refine Ya (Yb ?_)
   simp only [↓reduceIte]
   exact Zjk (λb s₁ Q' hq => by cases b <;> first | exact Yb hq | exact Vr hq) ho hex hd (S := λk' => S k' \/ k' = k) (n := n + 1) htab hfits hA1 hN1 hM1 hz1 hn λh' sb x => Yb (fin h' sb x)
end
section
variable {prog : Program} {w : World} {A : Around} {R : Result -> Shared -> Prop} {I : Addr} {fp wr : List Addr} {G : Array GenState -> Array GenState -> Prop} {P : Nat -> Value -> Prop} {St : Nat -> Shared -> Prop}
def ZeX {ns : List Int} {i : Nat} {v k : Int} (h : ns[i]? = some v) : k ∈ ns.take (i + 1) ↔ k ∈ ns.take i \/ k = v := by
 rw [Yw, h, Yu]
 simp
def ZlI {ns : List Int} (W : WalksS prog w A.in1 I fp wr G ns.length P St) (S : Addr) (hSf : S ∉ fp) (hval : ∀ i v, P i v -> ∃ k t, ns[i]? = some k /\ v = .int k t) (hb : ns.length + 1 < scanBound) :
  ∀ (k i : Nat) (s : Shared), ns.length - i = k -> i <= ns.length -> St i s -> SetI prog w s.heap S (· ∈ ns.take i) i ->
   (∀ s', Moved (S :: wr) G s s' -> SetI prog w s'.heap S (· ∈ ns) ns.length -> R (.ok (.ret .none)) s') -> codeAny (model prog w) A (.builtin "set.update.loop" ⟨[.ref S, .ref I], []⟩) R s := by
 have hSw : S ∉ wr := λh => hSf (W.sub _ h)
 have hsub : ∀ b ∈ wr, b ∈ S :: wr := λb hb => YZ _ hb
 intro k
 induction k with
 | zero =>
  intro i s hk hi hst hS hR
  obtain rfl : i = ns.length := by omega
  refine Vf F.entry_set_update_loop ?_
  rw [Vv F.plain_set_update_loop _]
  show wpAny _ A.in1 (pyNext (.ref I) >>= _) _ _ s
  refine Ya (W.done s _ _ hst λs' hm => ?_)
  show wpAny _ A.in1 (ret Value.none) _ _ s'
  rw [YE] at hS
  exact Yb (hR s' (hm.mono hsub) (hS.keep λo ho => hm.heap S _ hSw ho))
 | succ k ih =>
  intro i s hk hi hst hS hR
  have hlt : i < ns.length := by omega
  refine Vf F.entry_set_update_loop ?_
  rw [Vv F.plain_set_update_loop _]
  show wpAny _ A.in1 (pyNext (.ref I) >>= _) _ _ s
  refine Ya (W.item i s _ _ hlt hst λv s' hP hst' hm => ?_)
  obtain ⟨z, t, hz, rfl⟩ := hval i v hP
  have hS' := hS.keep (λo ho => hm.heap S _ hSw ho)
  show wpAny _ A.in1 (holding [Value.int z t] (setAdd S (.int z t)) >>= _) _ _ s'
  refine Ya (YD ?_)
  unfold setAdd
  refine YD (Ya ((intKind prog w).pyHash (k := z) (intKind_is _ _ _ _) ?_))
  refine ZiX (s := { s' with toks := s'.toks + 1 }) hS' (by omega) λh' r hsb hS2 => ?_
  have hSi : SetI prog w h' S (· ∈ ns.take (i + 1)) (i + 1) := by
   rw [show (· ∈ ns.take (i + 1)) = (λk' => k' ∈ ns.take i \/ k' = z) from funext λk' => propext (ZeX hz)]
   exact hS2
  refine Yb ⟨VY F.plain_set_update_loop _, ih (i + 1) _ (by omega) hlt (W.frame _ s' _ _ hst' (Vq _) λb hb o e => ?_) hSi λs'' hm'' hS'' => ?_⟩
  ·rw [hsb.2 b (λh : b = S => hSf (by rw [<- h]; exact hb))]; exact e
  ·refine hR s'' (Moved.trans W.gtrans ((hm.mono hsub).then_heap (Vq _) λb o hb e => ?_) hm'') hS''
   rw [hsb.2 b (λh : b = S => hb (by rw [h]; exact Vd))]; exact e
end
section
variable {prog : Program} {w : World} {A : Around} {E : Value -> Shared -> Prop} {s : Shared}
abbrev ZS (w : World) : Obj := { cls := .type "set", dict := none, data := .set #[] 0 (.fresh 0 0 (!byT w)) }
def Zka (a : Value) {Q₁ : Value -> Shared -> Prop} (h : Q₁ (.ref s.heap.objs.size) { s with heap := s.heap.push (ZS w) }) :
  codeAny (model prog w) A (.call (.builtin "set.__new__") ⟨[.type "set", a], []⟩) (wants Q₁ E) s := by
 refine codeAny_of_tree ?_
 show wpAny _ A.in1 (do checkBuiltinCall "set.__new__" ⟨[.type "set", a], []⟩; again (.builtin "set.__new__" ⟨[.type "set", a], []⟩)) _ _ s
 refine Ya (wpAny_of_eq (F.newCall_set_1 a) (Yb ⟨VY F.plain_set_new _, Vf F.entry_set_new ?_⟩))
 rw [Vv F.plain_set_new _]
 unfold Builtin.«set.__new__» Builtin.Frozenset.newClass
 have hsub := sub_set_self
 obtain ⟨hp, g, d, tk, os⟩ := s
 dsimp only
 wp_walk
 refine wpAny_askSetting (Yb ?_)
 dsimp only
 simp only [newObj]
 exact Ya (wpAny_alloc (Yb (Yb h)))
theorem SetI.fresh {h : Heap} {a : Addr} (e : h.get? a = some (ZS w)) : SetI prog w h a (· ∈ ([] : List Int)) 0 :=
 ⟨_, #[], 0, _, e, ⟨rfl, rfl, rfl⟩, rfl, ⟨List.Pairwise.nil, rfl, rfl⟩, rfl, (λe he => by simp at he), List.nodup_nil, λk => by simp, Nat.le_refl _⟩
set_option maxHeartbeats 3200000 in
theorem ZfP {l : Addr} {items : Array Value} {ns : List Int} {Q : Value -> Shared -> Prop} (hh : A.handled = none) (hl : s.heap.IsList l items) (hi : IntsAre items.toList ns) (hb : ns.length + 1 < scanBound)
  (h : ∀ (h' : Heap) (tk : Nat), SetI prog w h' s.heap.objs.size (· ∈ ns) ns.length -> (∀ b o, s.heap.get? b = some o -> h'.get? b = some o) -> Q (.ref s.heap.objs.size) { s with heap := h', toks := tk }) :
  wpAny (model prog w) A (call (.type "set") [.ref l]) Q E s := by
 obtain ⟨c, tl, hmro⟩ := F.called_set.mro
 have hmade := F.called_set.made
 have hsub := F.called_set.sub
 refine Vs (codeAny_of_tree ?_)
 show wpAny _ _ (callAny (.type "set") _) _ _ _
 refine Yb ⟨Code.quiet_builtin _ (by decide +kernel), Vf F.entry_type_call ?_⟩
 rw [Around.under_plain (weight_type_call_type "set" [.ref l] []) rfl]
 have h1 := F.called_set.notType
 have h2 := F.called_set.canCreate
 have hct := F.typeCall_set_1 (.ref l)
 repeat (any_goals (first | assumption | wp_step))
 refine YN (Zka (.ref l) (E := E) (Q₁ := λobj s₁ => obj = .ref s.heap.objs.size /\ s₁ = { s with heap := s.heap.push (ZS w) }) ⟨rfl, rfl⟩) λr s₁ hr => ?_
 cases r with
 | error e => exact hr
 | ok fl =>
  cases fl with
  | ret obj =>
   obtain ⟨rfl, rfl⟩ := hr
   have hS : (s.heap.push (ZS w)).get? s.heap.objs.size = some (ZS w) := Yn _ rfl
   have hT : Shared.TypeIs { s with heap := s.heap.push (ZS w) } (.ref s.heap.objs.size) "set" := ⟨_, hS, rfl⟩
   have hli := F.called_set.init.lookup
   have hbi := F.called_set.init.bind (.ref s.heap.objs.size)
   repeat (any_goals (first | assumption | wp_step))
   refine YN (Yat (R := wants (λr s₂ => r = .none /\ ∃ h' tk, s₂ = { s with heap := h', toks := tk } /\ SetI prog w h' s.heap.objs.size (· ∈ ns) ns.length /\ (∀ b o, s.heap.get? b = some o -> h'.get? b = some o)) E)
    F.called_set.init.plain F.entry_set_init (check_set_init_1 hT ?_)) λr₂ s₂ hr₂ => ?_
   ·obtain ⟨ol, hol, hcl, nl, hdl⟩ := hl
    obtain ⟨ocls, odict, odata, oslots⟩ := ol
    simp only at hcl hdl
    subst hcl; subst hdl
    have hol' : (s.heap.push (ZS w)).get? l = some { cls := .type "list", dict := odict, data := .seq items nl, slots := oslots } := Yf _ hol
    have hsls := F.sub_list_set
    have hslf := F.sub_list_frozenset
    have hne : (Value.type "list" == Value.type "dict") = false := by decide
    have hl1 : (s.heap.push (ZS w)).IsList l items := ⟨_, hol', rfl, nl, rfl⟩
    have hsz : items.size = ns.length := by rw [<- YL]; exact IntsAre.length hi
    unfold Builtin.«set.__init__» noKeywords Builtin.Frozenset.updateFrom
    generalize hPI : pyIter = PI
    wp_walk
    subst hPI
    refine wpAny_pyIter_list hl1 (Ya (wpAny_runValue ?_))
    have hlS : l < s.heap.objs.size := Ye hol
    have hz1 : (s.heap.push (ZS w)).objs.size = s.heap.objs.size + 1 := Yae ..
    have hneI : l ≠ (s.heap.push (ZS w)).objs.size := by rw [hz1]; exact Yl (Y3 hlS)
    have hSf : s.heap.objs.size ∉ [(s.heap.push (ZS w)).objs.size, l] := by
     rw [hz1]; simp only [List.mem_cons, List.not_mem_nil, or_false, not_or]; exact ⟨Nat.ne_of_lt (Nat.lt_succ_self _), Nat.ne_of_gt hlS⟩
    have W := (Walks.list (prog := prog) (w := w) (A := A.in1.in1.in1) (by simp [hh]) _ l hneI items).toS
    rw [hsz] at W
    refine ZlI W s.heap.objs.size hSf (λi v hv => ?_) hb ns.length 0 _ (by omega) (YA _) ⟨⟨_, Yn _ rfl, rfl, rfl⟩, (hl1.push _)⟩ (SetI.fresh (Yf _ hS)) λs' hm hS' => ?_
    ·have hlt : i < ns.length := by rw [<- hsz]; exact (Array.getElem?_eq_some_iff.mp hv).1
     obtain ⟨t, e⟩ := IntsAre.int_at hi i v (by rw [YH]; exact hv)
     exact ⟨ns[i], t, Yc hlt, by rw [e, List.getD_eq_getElem?_getD, Yc hlt]; rfl⟩
    ·obtain ⟨h', g', d', tk', os'⟩ := s'
     have eg : g' = s.gens := hm.gens
     have ed : d' = s.drawn := hm.drawn
     have eo : os' = s.os := hm.os
     subst eg; subst ed; subst eo
     show wpAny _ _ _ _ _ _
     refine Yb ?_
     show wpAny _ _ (ret Value.none) _ _ _
     refine Yb ⟨rfl, h', tk', rfl, hS', λb o e => ?_⟩
     have hb := Ye e
     exact hm.heap b o (by rw [hz1]; simp only [List.mem_cons, List.not_mem_nil, or_false, not_or]; exact ⟨Nat.ne_of_lt hb, Nat.ne_of_lt (Nat.lt_succ_of_lt hb)⟩) (Heap.get?_push_of_some _ (Heap.get?_push_of_some _ e))
   ·cases r₂ with
    | error e => exact hr₂
    | ok fl₂ =>
     cases fl₂ with
     | ret r =>
      obtain ⟨rfl, h', tk, rfl, hS', hk'⟩ := hr₂
      repeat (any_goals (first | assumption | wp_step))
      exact h _ _ hS' hk'
     | _ => exact hr₂.elim
  | _ => exact hr.elim
end
theorem Zds : Manifest.owners.lookup (String.ofList ['r', 'o', 't', 'a', 'r', 'e', 't', 'i', '_', 't', 'e', 's'].reverse) = some Manifest.sig_set_iterator := by kernel_rfl
def slot_setit_next : Slot "set_iterator" "__next__" "set_iterator.__next__" :=
 .of (owner := "set_iterator") (n := "__next__") (by rw [typeLookup_type, builtinLookup_eq_fast]; kernel_rfl) (by decide +kernel) (by decide +kernel) (by decide +kernel)
  (by first | exact .inl (by decide +kernel) | exact .inr (by decide +kernel)) (by rw [isSubtype_type]; kernel_rfl)
def Zar : entryFor table "set_iterator.__next__" = some Builtin.«set_iterator.__next__» := entryFor_of_tree (by kernel_rfl)
def Zav (a : Value) : argsOk "set_iterator.__next__" ⟨[a], []⟩ := by
 unfold argsOk; rw [signature?_of (id := "set_iterator.__next__") (n := ['_', '_', 't', 'x', 'e', 'n', '_', '_']) (o := ['r', 'o', 't', 'a', 'r', 'e', 't', 'i', '_', 't', 'e', 's']) (by kernel_rfl) Zds]; kernel_rfl
def Zby : Slot "set_iterator" "__iter__" "set_iterator.__iter__" :=
 .of (owner := "set_iterator") (n := "__iter__") (by rw [typeLookup_type, builtinLookup_eq_fast]; kernel_rfl) (by decide +kernel) (by decide +kernel) (by decide +kernel)
  (by first | exact .inl (by decide +kernel) | exact .inr (by decide +kernel)) (by rw [isSubtype_type]; kernel_rfl)
def ZdV : entryFor table "set.__iter__" = some Builtin.«frozenset.__iter__» :=
 entryFor_alias (id' := "frozenset.__iter__") (by kernel_rfl) rfl (by decide +kernel) (by kernel_rfl)
def ZcE : entryFor table "set_iterator.__iter__" = some Builtin.«dict_keyiterator.__iter__» :=
 entryFor_alias (id' := "dict_keyiterator.__iter__") (by kernel_rfl) rfl (by decide +kernel) (by kernel_rfl)
def Zdv (a : Value) : argsOk "set_iterator.__iter__" ⟨[a], []⟩ := by
 unfold argsOk; rw [signature?_of (id := "set_iterator.__iter__") (n := ['_', '_', 'r', 'e', 't', 'i', '_', '_']) (o := ['r', 'o', 't', 'a', 'r', 'e', 't', 'i', '_', 't', 'e', 's']) (by kernel_rfl) Zds]; kernel_rfl
def Zd1 {α : Type} {l : List α} {i : Nat} (h : i < l.length) : (l[i] :: l.eraseIdx i).Perm l := by
 rw [List.eraseIdx_eq_take_drop_succ]
 have e : l = l.take i ++ l[i] :: l.drop (i + 1) := by rw [List.getElem_cons_drop, YaI]
 conv => rhs; rw [e]
 exact List.perm_middle.symm
section
variable {prog : Program} {w : World} {A : Around} {E : Value -> Shared -> Prop} {s : Shared}
theorem ZiG {src : Source} {n : Nat} {Q : Nat -> Shared -> Prop} (hn : n ≠ 0) (h : ∀ k d, k < n -> Q k { s with drawn := d }) : wpAny (model prog w) A (choose src n) Q E s :=
 λ_ _ _ => ⟨hn, h _ _ (Nat.mod_lt _ (Nat.pos_of_ne_zero hn))⟩
def ZbY {Q : Bool -> Shared -> Prop} (h : Q (byT w) s) : wpAny (model prog w) A setsByText Q E s := by
 unfold setsByText
 exact Ya (wpAny_askSetting (Yb h))
theorem Zfc {α : Type} : ∀ (n : Nat) (xs : List α) (s : Shared) {Q : List α -> Shared -> Prop}, xs.length <= n -> (∀ ys d, ys.Perm xs -> Q ys { s with drawn := d }) -> wpAny (model prog w) A (drawOrder n xs) Q E s := by
 intro n
 induction n with
 | zero =>
  intro xs s Q hl h
  have : xs = [] := V2.mp (by omega)
  subst this
  unfold drawOrder
  exact Yb (h [] s.drawn .nil)
 | succ n ih =>
  intro xs s Q hl h
  cases xs with
  | nil => unfold drawOrder; exact wpAny_pure (h [] s.drawn .nil)
  | cons x xs =>
   unfold drawOrder
   refine wpAny_bind (ZiG (by simp) λk d hk => ?_)
   have e := Yc hk
   rw [e]
   dsimp only
   refine wpAny_bind (ih _ _ (by rw [List.length_eraseIdx, if_pos hk]; simp at hl ⊢; omega) λys d' hp => ?_)
   exact Yb (h _ d' ((hp.cons _).trans (Zd1 hk)))
theorem Zm7 {α : Type} (f : Nat -> Nat) : ∀ (n k : Nat) (xs : List α) (out : Array α), xs.length <= n -> (pickOrder.go f n k xs out).toList.Perm (out.toList ++ xs) := by
 intro n
 induction n with
 | zero =>
  intro k xs out hl
  have : xs = [] := V2.mp (by omega)
  subst this
  unfold pickOrder.go
  simp
 | succ n ih =>
  intro k xs out hl
  unfold pickOrder.go
  cases xs with
  | nil => simp
  | cons x xs =>
   have hk : f k % (x :: xs).length < (x :: xs).length := Nat.mod_lt _ (by simp)
   rw [Yc hk]
   dsimp only
   refine (ih _ _ _ (by rw [List.length_eraseIdx, if_pos hk]; simp at hl ⊢; omega)).trans ?_
   rw [Array.toList_push, List.append_assoc]
   exact List.Perm.append_left _ (Zd1 hk)
def Zjv {α : Type} (f : Nat -> Nat) (xs : Array α) : (pickOrder f xs).toList.Perm xs.toList := by
 unfold pickOrder
 exact (Zm7 f _ _ _ _ (by simp)).trans (by simp)
def SN (prog : Program) (w : World) (a : Addr) (o : Obj) (ep : Nat) (f : Nat -> Nat) (L : List Value) : Prop :=
 ∀ (A : Around) (E : Value -> Shared -> Prop) (s : Shared) (Q : Option (Value × Nat) -> Shared -> Prop) (i : Nat), i <= L.length -> s.heap.get? a = some o -> Q ((L[i]?).map λv => (v, f (i + 1))) s -> wpAny (model prog w) A (setNext a (f i) i ep) Q E s
def ZnH {a : Addr} {o : Obj} {es : Array (Int × Value)} {ep : Nat} {t : SetTable} (hd : o.data = .set es ep t) (hf : t.fits es.size = true) (hb : byT w = true) : SN prog w a o ep (λ_ => 0) ((pickOrder (w.params.setOrder a ep) es).toList.map (·.2)) := by
 intro A E s Q i hi ho h
 unfold setNext
 refine Ya (Vo ho hd hf ?_)
 dsimp only
 refine Ya (ZbY ?_)
 rw [hb, if_pos rfl, if_neg (by simp)]
 unfold setWalk
 refine Ya (Ya (Vo ho hd hf ?_))
 dsimp only
 refine Ya (ZbY ?_)
 rw [hb, if_pos rfl]
 refine Ya (wpAny_askSetting (Yb (Yb ?_)))
 rw [Yi, YH, Option.map_map] at h
 exact h
def Zcy (p : Array Nat) (i : Nat) : Nat := match i with
 | 0 => 0
 | i + 1 => p.getD i 0 + 1
theorem ZfB {p : Array Nat} (h : Rise p.toList) {i : Nat} (hi : i <= p.size) : SetTable.below p (Zcy p i) = i := by
 obtain ⟨h1, h2, h3⟩ := Zd2 p (Zcy p i) h
 generalize SetTable.below p (Zcy p i) = b at h1 h2 h3
 rcases Nat.lt_trichotomy b i with c | c | c
 ·have hb : b < p.size := by omega
  have e := Vb hb
  have h4 := h3 _ _ (Yd b) e
  cases i with
  | zero => omega
  | succ i =>
   have hi' : i < p.size := by omega
   have e2 := Vb hi'
   have hs : Zcy p (i + 1) = p[i] + 1 := by show p.getD i 0 + 1 = _; rw [VD, e2]; rfl
   rw [hs] at h4
   by_cases c2 : b = i
   ·subst c2; omega
   ·have := h.at (by rw [YH]; exact e) (by rw [YH]; exact e2) (show b < i by omega)
    omega
 ·exact c
 ·have hi' : i < p.size := by omega
  have e := Vb hi'
  have h4 := h2 _ _ c e
  cases i with
  | zero => exact absurd h4 (Yaa _)
  | succ i =>
   have hi2 : i < p.size := by omega
   have e2 := Vb hi2
   have hs : Zcy p (i + 1) = p[i] + 1 := by show p.getD i 0 + 1 = _; rw [VD, e2]; rfl
   rw [hs] at h4
   have := h.at (by rw [YH]; exact e2) (by rw [YH]; exact e) (V7 i)
   omega
def ZkL {a : Addr} {o : Obj} {es : Array (Int × Value)} {ep : Nat} {t : SetTable} (hd : o.data = .set es ep t) (hf : t.fits es.size = true) (hT : TOk (!byT w) t) (hb : byT w = false) (hp : (!t.plain && decide (es.size > 1)) = false) :
  SN prog w a o ep (Zcy t.place) (es.toList.map (·.2)) := by
 intro A E s Q i hi ho h
 have hz : t.place.size = es.size := by simp only [SetTable.fits, Bool.and_eq_true, beq_iff_eq] at hf; exact hf.1
 have hl : t.led = true := by rw [hT.2.2, hb]; rfl
 unfold setNext
 refine Ya (Vo ho hd hf ?_)
 dsimp only
 refine Ya (ZbY ?_)
 rw [hb, if_neg (by decide)]
 refine VS (λc => absurd (hp.symm.trans c) (by decide)) (λ_ => ?_)
 refine Ya ?_
 show wpAny _ _ (if (!t.led && !es.isEmpty) = true then unsupported _ else pure ()) _ _ _
 rw [hl, if_neg (by simp)]
 refine Yb (Yb ?_)
 rw [ZfB hT.1 (by rw [hz]; simpa using hi)]
 rw [Yi, YH] at h
 by_cases c : i < es.size
 ·have e := Vb c
  have e2 := Vb (show i < t.place.size by rw [hz]; exact c)
  rw [e, e2]
  rw [e] at h
  have hs : Zcy t.place (i + 1) = t.place[i] + 1 := by show t.place.getD i 0 + 1 = _; rw [VD, e2]; rfl
  rw [hs] at h
  exact h
 ·rw [Array.getElem?_eq_none (by omega)] at h ⊢
  exact h
abbrev ZdQ (f : Value) (i : Nat) (a : Addr) (n ep : Nat) : Obj := { cls := .type "set_iterator", dict := none, data := .fields #[f, .int i 0, .ref a, .int n 0, .int ep 0], slots := #[] }
def ZjS {I a : Addr} {o : Obj} {es : Array (Int × Value)} {ep : Nat} {t : SetTable} {f : Nat -> Nat} {L : List Value} {i : Nat} {v : Value} {Q : Option Value -> Shared -> Prop} (hne : I ≠ a) (hd : o.data = .set es ep t) (hf : t.fits es.size = true) (hsn : SN prog w a o ep f L) (hl : L.length = es.size)
  (hit : s.heap.get? I = some (ZdQ (.int (f i) 0) i a es.size ep)) (ho : s.heap.get? a = some o) (hi : L[i]? = some v)
  (h : ∀ h', h'.get? I = some (ZdQ (.int (f (i + 1)) 0) (i + 1) a es.size ep) -> Heap.SameBut I s.heap h' -> Q (some v) { s with heap := h' }) : wpAny (model prog w) A (pyNext (.ref I)) Q E s := by
 have hty : s.TypeIs (.ref I) "set_iterator" := ⟨_, hit, rfl⟩
 unfold pyNext
 refine Ya (VB (Yap (name := Str.ofString "__next__") hty slot_setit_next (YV slot_setit_next hty Zar ?_ (Zav _))))
 unfold Builtin.«set_iterator.__next__»
 refine Ya (Yb ?_)
 refine Ya (wpAny_fieldsOf hit rfl ?_)
 dsimp only
 refine Ya (Y0 ho hd hf ?_)
 rw [if_neg (by simp)]
 have hil : i < L.length := (Yj.mp hi).1
 refine Ya (hsn _ _ s _ i (Ys hil) ho ?_)
 rw [hi]
 dsimp only [Option.map]
 refine wpAny_bind (wpAny_setField_rec hit (by simp) λh1 g1 sb1 => ?_)
 refine wpAny_bind (wpAny_setField_rec (s := { s with heap := h1 }) g1 (by simp) λh2 g2 sb2 => ?_)
 refine Yb ⟨_, rfl, Yb (h h2 ?_ (sb1.trans sb2))⟩
 rw [g2]
 simp [rawInt]
def Zl5 {I a : Addr} {o : Obj} {es : Array (Int × Value)} {ep : Nat} {t : SetTable} {f : Nat -> Nat} {L : List Value} {Q : Option Value -> Shared -> Prop} (hh : A.handled = none) (hd : o.data = .set es ep t) (hf : t.fits es.size = true) (hsn : SN prog w a o ep f L) (hl : L.length = es.size)
  (hit : s.heap.get? I = some (ZdQ (.int (f L.length) 0) L.length a es.size ep)) (ho : s.heap.get? a = some o) (h : ∀ h', Heap.ExtBut I s.heap h' -> Q none { s with heap := h' }) : wpAny (model prog w) A (pyNext (.ref I)) Q E s := by
 have hty : s.TypeIs (.ref I) "set_iterator" := ⟨_, hit, rfl⟩
 unfold pyNext
 refine Ya (VB (Yap (name := Str.ofString "__next__") hty slot_setit_next (YV slot_setit_next hty Zar ?_ (Zav _))))
 unfold Builtin.«set_iterator.__next__»
 refine Ya (Yb ?_)
 refine Ya (wpAny_fieldsOf hit rfl ?_)
 dsimp only
 refine Ya (Y0 ho hd hf ?_)
 rw [if_neg (by simp)]
 refine Ya (hsn _ _ s _ L.length (Yd _) ho ?_)
 rw [YY (Yd _)]
 dsimp only [Option.map]
 refine wpAny_bind (wpAny_setField_rec hit (by simp) λh1 g1 sb1 => ?_)
 refine Ya ?_
 simp only [newExc, newTuple]
 refine Ya (Vh ?_ (by size_fits))
 refine wpAny_bind (m := firstArgMember _ _) (wpAny_of_eq (a := Value.none) (by first | rfl | (simp only [firstArgMember]; rfl)) ?_)
 refine Vh ?_ (by size_fits)
 simp only [raiseNew]
 refine Ya (wpAny_handled ?_)
 rw [show A.in1.handled = none from hh]
 refine Ya (Yb (wpAny_throw ?_))
 refine Ya (Vz (T := "StopIteration") (b := true) ⟨_, Yn _ rfl, rfl⟩ isSubtype_stop ?_)
 exact Yb (h _ ((sb1.extBut.push _).push _))
def ZiL {I a : Addr} {f : Value} {i n ep : Nat} {Q : Value -> Shared -> Prop} (hit : s.heap.get? I = some (ZdQ f i a n ep)) (h : Q (.ref I) s) : wpAny (model prog w) A (pyIter (.ref I)) Q E s := by
 have hty : s.TypeIs (.ref I) "set_iterator" := ⟨_, hit, rfl⟩
 refine wpAny_pyIter_slot hty Zby (YV Zby hty ZcE ?_ (Zdv _))
 show wpAny _ _ (ret (.ref I)) _ _ s
 exact Yb ⟨_, rfl, "set_iterator", _, hty, slot_setit_next.lookup, h⟩
def Zmi (hh : A.handled = none) {I a : Addr} {o : Obj} {es : Array (Int × Value)} {ep : Nat} {t : SetTable} {f : Nat -> Nat} {L : List Value} (hne : I ≠ a) (hd : o.data = .set es ep t) (hf : t.fits es.size = true) (hsn : SN prog w a o ep f L) (hl : L.length = es.size) :
  Walks prog w A I [I, a] [I] L.length (λi v => L[i]? = some v) (λi h => h.get? I = some (ZdQ (.int (f i) 0) i a es.size ep) /\ h.get? a = some o) where
 sub := λb hb => by simp only [List.mem_singleton] at hb; subst hb; simp
 frame := λi h h' ⟨h1, h2⟩ hk => ⟨hk I (by simp) _ h1, hk a (by simp) _ h2⟩
 item := λi s Q E hi ⟨h1, h2⟩ hQ => ZjS hne hd hf hsn hl h1 h2 (Yc hi) λh' g sb => by
  have := hQ _ h' s.toks (List.getElem?_eq_getElem hi) ⟨g, by rw [sb.2 a (λz => hne z.symm)]; exact h2⟩ λb o hb e => by rw [sb.2 b (λz => hb (by rw [z]; simp))]; exact e
  exact this
 done := λs Q E ⟨h1, h2⟩ hQ => Zl5 hh hd hf hsn hl h1 h2 λh' x => by
  have := hQ h' s.toks λb o hb e => x b o (λz => hb (by rw [z]; simp)) e
  exact this
 self := λi s Q E ⟨h1, h2⟩ hQ => ZiL h1 hQ
def ZhV {I a T : Addr} {o oT : Obj} {es : Array (Int × Value)} {ep c : Nat} {t : SetTable} {ps : List Nat} {i p : Nat} {x : Int × Value} {Q : Option Value -> Shared -> Prop} (hd : o.data = .set es ep t) (hf : t.fits es.size = true) (hT : oT.data = .seq (ps.map λk : Nat => rawInt k).toArray c)
  (hit : s.heap.get? I = some (ZdQ (.ref T) i a es.size ep)) (ho : s.heap.get? a = some o) (hoT : s.heap.get? T = some oT) (hi : ps[i]? = some p) (hx : es[p]? = some x)
  (h : ∀ h', h'.get? I = some (ZdQ (.ref T) (i + 1) a es.size ep) -> Heap.SameBut I s.heap h' -> Q (some x.2) { s with heap := h' }) : wpAny (model prog w) A (pyNext (.ref I)) Q E s := by
 have hty : s.TypeIs (.ref I) "set_iterator" := ⟨_, hit, rfl⟩
 unfold pyNext
 refine Ya (VB (Yap (name := Str.ofString "__next__") hty slot_setit_next (YV slot_setit_next hty Zar ?_ (Zav _))))
 unfold Builtin.«set_iterator.__next__»
 refine Ya (Yb ?_)
 refine Ya (wpAny_fieldsOf hit rfl ?_)
 dsimp only
 refine Ya (Y0 ho hd hf ?_)
 rw [if_neg (by simp)]
 unfold seqItems?
 dsimp only
 refine Ya (Ya (VC hoT ?_))
 rw [hT]
 refine Yb ?_
 dsimp only
 rw [List.getElem?_toArray, Yi, VN, hi]
 dsimp only [Option.map, rawInt]
 refine Ya ?_
 unfold setNextDrawn
 refine Ya (Vo ho hd hf ?_)
 dsimp only
 rw [if_neg (by simp), Int.toNat_natCast, hx]
 refine Yb ?_
 refine wpAny_bind (wpAny_setField_rec hit (by simp) λh1 g1 sb1 => ?_)
 refine Yb ⟨_, rfl, Yb (h h1 ?_ sb1)⟩
 rw [g1]
 simp
def ZjD {I a T : Addr} {o oT : Obj} {es : Array (Int × Value)} {ep c : Nat} {t : SetTable} {ps : List Nat} {Q : Option Value -> Shared -> Prop} (hh : A.handled = none) (hd : o.data = .set es ep t) (hf : t.fits es.size = true) (hT : oT.data = .seq (ps.map λk : Nat => rawInt k).toArray c)
  (hit : s.heap.get? I = some (ZdQ (.ref T) ps.length a es.size ep)) (ho : s.heap.get? a = some o) (hoT : s.heap.get? T = some oT) (h : ∀ h', Heap.ExtBut I s.heap h' -> Q none { s with heap := h' }) : wpAny (model prog w) A (pyNext (.ref I)) Q E s := by
 have hty : s.TypeIs (.ref I) "set_iterator" := ⟨_, hit, rfl⟩
 unfold pyNext
 refine Ya (VB (Yap (name := Str.ofString "__next__") hty slot_setit_next (YV slot_setit_next hty Zar ?_ (Zav _))))
 unfold Builtin.«set_iterator.__next__»
 refine Ya (Yb ?_)
 refine Ya (wpAny_fieldsOf hit rfl ?_)
 dsimp only
 refine Ya (Y0 ho hd hf ?_)
 rw [if_neg (by simp)]
 unfold seqItems?
 dsimp only
 refine Ya (Ya (VC hoT ?_))
 rw [hT]
 refine Yb ?_
 dsimp only
 rw [List.getElem?_toArray, Yi, VN, YY (Yd _)]
 dsimp only [Option.map]
 refine wpAny_bind (wpAny_setField_rec hit (by simp) λh0 g0 sb0 => ?_)
 refine wpAny_bind (wpAny_setField_rec (s := { s with heap := h0 }) g0 (by simp) λh1 g1 sb1 => ?_)
 refine Ya ?_
 simp only [newExc, newTuple]
 refine Ya (Vh ?_ (by size_fits))
 refine wpAny_bind (m := firstArgMember _ _) (wpAny_of_eq (a := Value.none) (by first | rfl | (simp only [firstArgMember]; rfl)) ?_)
 refine Vh ?_ (by size_fits)
 simp only [raiseNew]
 refine Ya (wpAny_handled ?_)
 rw [show A.in1.handled = none from hh]
 refine Ya (Yb (wpAny_throw ?_))
 refine Ya (Vz (T := "StopIteration") (b := true) ⟨_, Yn _ rfl, rfl⟩ isSubtype_stop ?_)
 exact Yb (h _ (((sb0.trans sb1).extBut.push _).push _))
def Zf3 (hh : A.handled = none) {I a T : Addr} {o oT : Obj} {es : Array (Int × Value)} {ep c : Nat} {t : SetTable} {ps : List Nat} (hne : I ≠ a) (hnT : I ≠ T) (hd : o.data = .set es ep t) (hf : t.fits es.size = true) (hT : oT.data = .seq (ps.map λk : Nat => rawInt k).toArray c)
  (hps : ∀ (i p : Nat), ps[i]? = some p -> p < es.size) :
  Walks prog w A I [I, a, T] [I] ps.length (λi v => ∃ p x, ps[i]? = some p /\ es[p]? = some x /\ v = x.2) (λi h => h.get? I = some (ZdQ (.ref T) i a es.size ep) /\ h.get? a = some o /\ h.get? T = some oT) where
 sub := λb hb => by simp only [List.mem_singleton] at hb; subst hb; simp
 frame := λi h h' ⟨h1, h2, h3⟩ hk => ⟨hk I (by simp) _ h1, hk a (by simp) _ h2, hk T (by simp) _ h3⟩
 item := λi s Q E hi ⟨h1, h2, h3⟩ hQ => by
  have e := Yc hi
  have e2 := Vb (hps i _ e)
  refine ZhV hd hf hT h1 h2 h3 e e2 λh' g sb => ?_
  have := hQ _ h' s.toks ⟨_, _, e, e2, rfl⟩ ⟨g, by rw [sb.2 a (λz => hne z.symm)]; exact h2, by rw [sb.2 T (λz => hnT z.symm)]; exact h3⟩ λb o hb e => by rw [sb.2 b (λz => hb (by rw [z]; simp))]; exact e
  exact this
 done := λs Q E ⟨h1, h2, h3⟩ hQ => ZjD hh hd hf hT h1 h2 h3 λh' x => by
  have := hQ h' s.toks λb o hb e => x b o (λz => hb (by rw [z]; simp)) e
  exact this
 self := λi s Q E ⟨h1, h2⟩ hQ => ZiL h1 hQ
def Zj7 : ∀ {es : List (Int × Value)}, AllI prog w es -> IntsAre (es.map (·.2)) (es.map JA)
 | [], _ => .nil
 | e :: es, h => by
  obtain ⟨k, t, h1, _⟩ := h e (Vd ..)
  have h3 : JA e = k := by unfold JA; rw [h1]
  rw [Yr, Yr, h1, h3]
  exact .cons k t (Zj7 λx hx => h x (YZ _ hx))
theorem Zmz {es : Array (Int × Value)} : ∀ {ps : List Nat}, (∀ (i p : Nat), ps[i]? = some p -> p < es.size) -> ∀ vs : List Value, vs.length = ps.length -> (∀ (i : Nat) v, vs[i]? = some v -> ∃ p x, ps[i]? = some p /\ es[p]? = some x /\ v = x.2) -> vs = (ps.filterMap (es[·]?)).map (·.2)
 | [], _, vs, hl, _ => by rw [V2.mp hl]; rfl
 | p :: ps, hps, vs, hl, hv => by
  cases vs with
  | nil => cases hl
  | cons v vs =>
   obtain ⟨p', x, e1, e2, rfl⟩ := hv 0 v rfl
   cases e1
   rw [YaJ, e2]
   dsimp only
   rw [List.map_cons, <- Zmz (λi p h => hps (i + 1) p h) vs (by simpa using hl) λi v h => hv (i + 1) v h]
def ZkY {a : Addr} {S : Int -> Prop} {n : Nat} {Q : Value -> Shared -> Prop} (hh : A.handled = none) (hS : SetI prog w s.heap a S n) (hn : n < scanBound)
  (h : ∀ (h' : Heap) d (I : Addr) (fp : List Addr) (m : Nat) (P : Nat -> Value -> Prop) (St : Nat -> Heap -> Prop), (∀ b o, s.heap.get? b = some o -> h'.get? b = some o) -> Walks prog w A I fp [I] m P St -> St 0 h' -> s.heap.objs.size <= I -> (∀ b ∈ fp, b = a \/ s.heap.objs.size <= b) -> (∀ b ∈ fp, b < h'.objs.size) ->
   m <= n -> (∀ vs : List Value, vs.length = m -> (∀ (i : Nat) v, vs[i]? = some v -> P i v) -> ∃ ks : List Int, IntsAre vs ks /\ ks.Nodup /\ ∀ k, k ∈ ks ↔ S k) -> Q (.ref I) { s with heap := h', drawn := d }) :
  wpAny (model prog w) A (pyIter (.ref a)) Q E s := by
 obtain ⟨o, es, ep, t, ho, hex, hd, hT, hf, hA, hN, hM, hz⟩ := id hS
 have hty : s.TypeIs (.ref a) "set" := ⟨_, ho, hex.1⟩
 refine wpAny_pyIter_slot hty F.slot_set_iter (YV F.slot_set_iter hty ZdV ?_ (F.args_set_iter_1 _))
 unfold Builtin.«frozenset.__iter__» Builtin.Frozenset.slot0 Builtin.Frozenset.sizeOf
 refine Ya (Ya (Yb (Yb ?_)))
 refine Ya (Ya (Y0 ho hd hf (Yb ?_)))
 unfold setDrawn
 refine Ya (Ya (Vo ho hd hf ?_))
 dsimp only
 refine Ya (ZbY (Yb ?_))
 have hlt : a < s.heap.objs.size := Ye ho
 have told : ∀ (es' : List (Int × Value)), es'.Perm es.toList -> ∀ vs : List Value, vs = es'.map (·.2) -> ∃ ks : List Int, IntsAre vs ks /\ ks.Nodup /\ ∀ k, k ∈ ks ↔ S k := λes' hp vs hv =>
  ⟨es'.map JA, by rw [hv]; exact Zj7 (hA.perm hp), (hp.map JA).nodup_iff.mpr hN, λk => ((hp.map JA).mem_iff).trans (hM k)⟩
 have plain : ∀ (f : Nat -> Nat) (es' : List (Int × Value)), es'.Perm es.toList -> f 0 = 0 -> SN prog w a o ep f (es'.map (·.2)) -> wpAny (model prog w) A.in1 (do
   let first <- pure (rawInt 0)
   let __do_lift <- setEpoch a
   let __do_lift <- newFields "set_iterator" [first, rawInt 0, Value.ref a, rawInt ↑es.size, rawInt ↑__do_lift]
   ret __do_lift) (λfin s' => ∃ v, fin = Fin.done (Flow.ret v) /\ ∃ T' r, s'.TypeIs v T' /\ typeLookup (Value.type T') (Str.ofString "__next__") = pure (some r) /\ Q v s') E s := by
  intro f es' hp hf0 hsn
  refine Ya (Yb (Ya (YaB ho hd hf (Ya ?_))))
  unfold newFields
  refine Vh (Yb ⟨_, rfl, "set_iterator", _, ⟨_, Yn _ rfl, rfl⟩, slot_setit_next.lookup, ?_⟩)
  have hl : (es'.map (·.2)).length = es.size := by rw [Yg, hp.length_eq, YL]
  have key := h (s.heap.push (ZdQ (.int (f 0) 0) 0 a es.size ep)) s.drawn s.heap.objs.size [s.heap.objs.size, a] _ _ _ (λb o e => Yf _ e) (Zmi hh (Vk hlt) hd hf hsn hl) ⟨Yn _ rfl, Yf _ ho⟩ (Yd _)
   (λb hb => by simp only [List.mem_cons, List.not_mem_nil, or_false] at hb; rcases hb with rfl | rfl; exact .inr (Nat.le_refl _); exact .inl rfl)
   (λb hb => by rw [Heap.size_push]; simp only [List.mem_cons, List.not_mem_nil, or_false] at hb; rcases hb with rfl | rfl; exact Nat.lt_succ_self _; exact Nat.lt_succ_of_lt hlt)
   (by rw [hl]; exact hz) (λvs hvl hv => told es' hp vs (Yaw λi => by
    by_cases c : i < vs.length
    ·rw [Yc c, hv i _ (Yc c)]
    ·rw [YY (by omega), YY (by omega)]))
  rw [hf0] at key
  exact key
 cases hb : byT w with
 | true =>
  rw [if_neg (by simp)]
  exact plain (λ_ => 0) _ (Zjv (w.params.setOrder a ep) es) rfl (ZnH hd hf hb)
 | false =>
  refine VS (λc => ?_) (λc => ?_)
  ·refine wpAny_bind (Zfc _ _ _ (by simp) λps d hp => ?_)
   have hpl : ps.length = es.size := by rw [hp.length_eq, List.length_range]
   have hz2 : (ps.map λi : Nat => rawInt i).length <= sizeLine := by rw [Yg, hpl]; exact fits_of_scanBound (Yz hz hn)
   refine Ya (wpAny_newTuple ?_ hz2)
   refine Ya (YaB (Yf _ ho) hd hf (Ya ?_))
   unfold newFields
   refine Vh (Yb ⟨_, rfl, "set_iterator", _, ⟨_, Yn _ rfl, rfl⟩, slot_setit_next.lookup, ?_⟩)
   have hps : ∀ (i p : Nat), ps[i]? = some p -> p < es.size := λi p e => Vg.mp (hp.mem_iff.mp (Yq e))
   have hz1 : (s.heap.push { cls := .type "tuple", data := .seq (ps.map λi : Nat => rawInt i).toArray }).objs.size = s.heap.objs.size + 1 := Yae ..
   refine h _ d (s.heap.push _).objs.size [(s.heap.push _).objs.size, a, s.heap.objs.size] _ _ _ (λb o e => Yf _ (Yf _ e)) (Zf3 hh (ps := ps) (c := 0) ?_ ?_ hd hf rfl hps) ⟨Yn _ rfl, Yf _ (Yf _ ho), Yf _ (Yn _ rfl)⟩ ?_ ?_ ?_ (by rw [hpl]; exact hz) λvs hvl hv => ?_
   ·rw [hz1]; exact Vk (Y3 hlt)
   ·rw [hz1]; exact Nat.succ_ne_self _
   ·rw [hz1]; exact Vq _
   ·intro b hb
    rw [hz1] at hb
    simp only [List.mem_cons, List.not_mem_nil, or_false] at hb
    rcases hb with rfl | rfl | rfl
    ·exact .inr (Vq _)
    ·exact .inl rfl
    ·exact .inr (Yd _)
   ·intro b hb
    rw [hz1] at hb
    rw [Yae, hz1]
    simp only [List.mem_cons, List.not_mem_nil, or_false] at hb
    rcases hb with rfl | rfl | rfl
    ·exact V7 _
    ·exact Y3 (Y3 hlt)
    ·exact Y3 (V7 _)
   ·refine told (ps.filterMap (es[·]?)) ((hp.filterMap _).trans (by rw [filterMap_getElem?_range])) vs ?_
    exact Zmz hps vs hvl hv
  ·exact plain (Zcy t.place) es.toList (.refl _) rfl (ZkL hd hf hT hb (by cases q : (!t.plain && decide (es.size > 1)) with | false => rfl | true => exact absurd (show (!false && (!t.plain && decide (es.size > 1))) = true by rw [q]; rfl) c))
def Zmn {r : Addr} {Q : Bool -> Shared -> Prop} (hT : s.TypeIs (.ref r) "set") (h : Q false s) : wpAny (model prog w) A (Builtin.List.listLengthHint (.ref r)) Q E s := by
 unfold Builtin.List.listLengthHint
 refine Ya (wpAny_specialOf hT (show typeLookup (.type "set") "__len__" = pure (some (.builtin "set.__len__")) from by rw [typeLookup_type, builtinLookup_eq_fast]; kernel_rfl) ?_)
 generalize hid : ("set.__len__" : String) = id0
 wp_delta
 rw [show splitId id0 = some ("set", "__len__") from by subst hid; decide +kernel]
 subst hid
 refine Ya (Vz (T := "set") (b := true) hT (by rw [isSubtype_type]; kernel_rfl) ?_)
 refine VS (λhab => absurd hab (by decide)) (λ_ => ?_)
 refine VS (λ_ => ?_) (λhab => absurd (by decide +kernel) hab)
 refine Ya (wpAny_typeOf hT ?_)
 exact Yb h
theorem SetI.type {a : Addr} {S : Int -> Prop} {n : Nat} (x : SetI prog w s.heap a S n) : s.TypeIs (.ref a) "set" := let ⟨o, _, _, _, ho, hex, _⟩ := x; ⟨o, ho, hex.1⟩
abbrev ZdM (c : Nat) : Obj := { cls := .type "list", data := .seq #[] c }
def Zhj {a L : Addr} {S : Int -> Prop} {n c₀ : Nat} {res : Value} {R : Result -> Shared -> Prop} (hh : A.handled = none) (hS : SetI prog w s.heap a S n) (hn : n < scanBound) (hLa : L ≠ a) (hL : s.heap.get? L = some (ZdM c₀))
  (hR : ∀ h' d tk (acc : Array Value) (ks : List Int) c', (∀ b o, b ≠ L -> s.heap.get? b = some o -> h'.get? b = some o) -> h'.get? L = some { cls := .type "list", dict := none, data := .seq acc c', slots := #[] } -> IntsAre acc.toList ks -> ks.Nodup -> (∀ k, k ∈ ks ↔ S k) -> acc.size <= n ->
   R (.ok (.ret res)) { s with heap := h', drawn := d, toks := tk }) :
  wpAny (model prog w) A.in1 (Builtin.List.listExtendWith (.ref L) (.ref a) res)
   (λfin s' => match fin with | .done f => R (.ok f) s' | .again c' => c'.quiet = true /\ codeAny (model prog w) A c' R s') (λe s' => R (.error e) s') s := by
 unfold Builtin.List.listExtendWith
 refine Ya (wpAny_typeOf (T := "set") hS.type ?_)
 have h1 : Builtin.List.listSameRef (.ref L) (.ref a) = false := by simp [Builtin.List.listSameRef, hLa]
 have h2 : (Value.type "set" == Value.type "list") = false := by decide
 have h3 : (Value.type "set" == Value.type "tuple") = false := by decide
 simp only [h1, h2, h3, Bool.or_false, Bool.false_eq_true, if_false]
 have hLlt := Ye hL
 refine Ya (ZkY (A := A.in1) hh hS hn λh' d I fp m P St hk W hst hI hfp hfp2 hm told => ?_)
 have hLf : L ∉ fp := λz => by
  rcases hfp L z with e | e
  ·exact hLa e
  ·exact absurd hLlt (Nat.not_lt.mpr e)
 have hL1 : h'.get? L = some (ZdM c₀) := hk _ _ hL
 have key : ∀ (h1 : Heap) (c₁ : Nat), (∀ b o, b ≠ L -> h'.get? b = some o -> h1.get? b = some o) -> h1.get? L = some (ZdM c₁) -> codeAny (model prog w) A (.builtin "list.extend.loop" ⟨[.ref L, .ref I, res], []⟩) R { s with heap := h1, drawn := d } := by
  intro h1 c₁ k1 g1
  refine codeAny_extend_loopS W.toS (fits_of_scanBound (Yz hm hn)) L hLf res m 0 _ #[] c₁ rfl (YA _) (W.frame 0 h' h1 hst λb hb o e => k1 b o (λz => hLf (z ▸ hb)) e) g1 (ItemsOf.nil _) λs' acc' c' hmv g' hacc => ?_
  rw [Moved.eq_with hmv]
  obtain ⟨ks, i1, i2, i3⟩ := told acc'.toList (by rw [YL]; exact hacc.1) λj v e => hacc.2 j v (by rw [<- YH]; exact e)
  refine hR s'.heap d s'.toks acc' ks c' (λb o hb e => hmv.heap b o (λz => ?_) (k1 b o hb (hk b o e))) g' i1 i2 i3 (by rw [hacc.1]; exact hm)
  rcases Ym.mp z with z | z
  ·exact hb z
  ·rw [YB.mp z] at e
   exact absurd (Ye e) (Nat.not_lt.mpr hI)
 have hS' : SetI prog w h' a S n := hS.keep λo e => hk _ _ e
 refine Ya (YD (Zmn (s := { s with heap := h', drawn := d }) hS'.type ?_))
 refine VS (λ_ => ?_) (λ_ => Yb ⟨VY F.plain_extend_loop _, key h' c₀ (λb o _ e => e) hL1⟩)
 refine Ya (Vr (Ya ?_))
 show wpAny _ _ (updateSeq L (·.push .none) >>= λ_ => updateSeq L (·.pop)) _ _ _
 refine Ya (wpAny_updateSeq hL1 rfl ?_)
 have g2 := Yar (Obj.mapSeq (·.push Value.none)) hL1 rfl
 refine wpAny_updateSeq (hz := by seq_fits) g2 rfl ?_
 have g3 := Yar (Obj.mapSeq (·.pop)) g2 rfl
 exact Yb ⟨VY F.plain_extend_loop _, key _ _ (λb o hb e => (Vm _ _ (Ne.symm hb)).trans ((Vm _ _ (Ne.symm hb)).trans e)) g3⟩
def Zgj {a : Addr} {S : Int -> Prop} {n : Nat} {Q : List Value -> Shared -> Prop} (hh : A.handled = none) (hS : SetI prog w s.heap a S n) (hn : n < scanBound)
  (h : ∀ h' d tk (vs : List Value) (ks : List Int), (∀ b o, s.heap.get? b = some o -> h'.get? b = some o) -> IntsAre vs ks -> ks.Nodup -> (∀ k, k ∈ ks ↔ S k) -> vs.length <= n -> s.heap.objs.size <= h'.objs.size -> Q vs { s with heap := h', drawn := d, toks := tk }) :
  wpAny (model prog w) A (collect (.ref a)) Q E s := by
 unfold collect
 refine Ya (wpAny_runValue (Vf entry_proto_collect' ?_))
 rw [Vv F.plain_proto_collect _]
 show wpAny _ A.in1 (newList [] >>= λl => again (.builtin "list.__iadd__" ⟨[l, .ref a], []⟩)) _ _ s
 refine Ya (Vh ?_)
 refine Yb ⟨VY YaH _, Vf entry_list_iadd' ?_⟩
 rw [Vv YaH _]
 show wpAny _ A.in1 (Builtin.List.listExtendWith (.ref s.heap.objs.size) (.ref a) (.ref s.heap.objs.size)) _ _ _
 have key := Zhj (A := A) (s := { s with heap := s.heap.push (ZdM 0) }) (L := s.heap.objs.size) (c₀ := 0) (res := .ref s.heap.objs.size) (n := n) (S := S)
  (R := λ(q : Result) (s' : Shared) => ∃ (h' : Heap) (d : Drawn) (tk : Nat) (acc : Array Value) (ks : List Int) (c' : Nat), q = .ok (.ret (.ref s.heap.objs.size)) /\ s' = { s with heap := h', drawn := d, toks := tk } /\ (∀ b o, s.heap.get? b = some o -> h'.get? b = some o) /\
   h'.get? s.heap.objs.size = some { cls := .type "list", dict := none, data := .seq acc c', slots := #[] } /\ IntsAre acc.toList ks /\ ks.Nodup /\ (∀ k, k ∈ ks ↔ S k) /\ acc.size <= n)
  hh (hS.keep λo e => Yf _ e) hn (Vk hS.lt) (Yn _ rfl)
  (λh' d tk acc ks c' hk g i1 i2 i3 i4 => ⟨h', d, tk, acc, ks, c', rfl, rfl, λb o e => hk b o (Yl (Ye e)) (Yf _ e), g, i1, i2, i3, i4⟩)
 refine Yp key (λfin s' x => ?_) λe s' x => ?_
 ·cases fin with
  | done f =>
   obtain ⟨h', d, tk, acc, ks, c', e, rfl, hk, g, i1, i2, i3, i4⟩ := x
   cases e
   show wpAny _ A (load s.heap.objs.size >>= _) _ _ _
   exact Ya (VC g (Yb (h h' d tk acc.toList ks hk i1 i2 i3 (by rw [YL]; exact i4) (Ys (Ye g)))))
  | again c₁ =>
   refine ⟨x.1, YN x.2 λq s₂ y => ?_⟩
   obtain ⟨h', d, tk, acc, ks, c', rfl, rfl, hk, g, i1, i2, i3, i4⟩ := y
   show wpAny _ A (load s.heap.objs.size >>= _) _ _ _
   exact Ya (VC g (Yb (h h' d tk acc.toList ks hk i1 i2 i3 (by rw [YL]; exact i4) (Ys (Ye g)))))
 ·obtain ⟨_, _, _, _, _, _, e', _⟩ := x
  cases e'
def ZdP {ks : List Int} (h : ks.Pairwise (· <= ·)) (hn : ks.Nodup) : ks.Pairwise (· < ·) := by
 have := List.Pairwise.and h hn
 exact this.imp λ⟨h1, h2⟩ => Int.lt_iff_le_and_ne.mpr ⟨h1, h2⟩
theorem Za7 {h : Heap} {a b : Addr} {o : Obj} {vs : List Value} {out : Array Value} (hb : b ≠ a) (e : h.get? b = some o) : (sortedHeap h a vs out).get? b = some o := by
 unfold sortedHeap
 exact (Vm _ _ (Ne.symm hb)).trans (Yf _ (Yf _ ((Vm _ _ (Ne.symm hb)).trans e)))
def Zb8 {h : Heap} {a : Addr} {vs : List Value} {n : Nat} {out : Array Value} (e : h.get? a = some (seqObj "list" vs.toArray n)) : ∃ c, (sortedHeap h a vs out).get? a = some { cls := .type "list", dict := none, data := .seq out c, slots := #[] } := by
 unfold sortedHeap
 exact ⟨_, Yag (Yf _ (Yf _ (Yag e λ_ => #[]))) λ_ => out⟩
def ZhT {a : Addr} {S : Int -> Prop} {n : Nat} {Q : Value -> Shared -> Prop} (hh : A.handled = none) (hS : SetI prog w s.heap a S n) (hn : n < 64)
  (h : ∀ (h' : Heap) d tk (D : Addr) (out : Array Value) (ks : List Int) c, (∀ b o, s.heap.get? b = some o -> h'.get? b = some o) -> s.heap.objs.size <= D -> h'.get? D = some { cls := .type "list", dict := none, data := .seq out c, slots := #[] } -> IntsAre out.toList ks -> ks.Pairwise (· < ·) -> (∀ k, k ∈ ks ↔ S k) ->
   Q (.ref D) { s with heap := h', drawn := d, toks := tk }) : wpAny (model prog w) A (call (.builtin "sorted") [.ref a]) Q E s := by
 refine Calls.call_function_entry kind_sorted plain_sorted entry_sorted (args_sorted1 _) ?_
 unfold Builtin.«sorted»
 refine Ya (m := checkCount "sorted" 1 1 _) (Yb ?_)
 refine Ya (Zgj (A := A.in1) hh hS (Nat.lt_trans hn (by decide)) λh' d tk vs ks hk i1 i2 i3 i4 hle => ?_)
 have hv : vs.length < 64 := by omega
 refine Ya (VX ?_ (Yh (Ys hv) (by decide)))
 have hoL : (h'.push (seqObj "list" vs.toArray 0)).get? h'.objs.size = some (seqObj "list" vs.toArray 0) := Yn _ rfl
 refine Ya (YD (YV slot_list_sort ⟨_, hoL, rfl⟩ entry_list_sort (list_sort_tree hoL i1 hv λout ks' a1 a2 a3 => ⟨_, rfl, ?_⟩) (args_list_sort _)))
 obtain ⟨c, e1⟩ := Zb8 hoL (out := out)
 refine Yb ⟨_, rfl, h _ d tk h'.objs.size out ks' c (λb o e => ?_) hle e1 a1 (ZdP a3 (a2.nodup_iff.mpr i2)) λk => (a2.mem_iff).trans (i3 k)⟩
 exact Za7 (Yl (Yo (Ye e) hle)) (Yf _ (hk b o e))
end
end My
namespace My
open PySem PySem.Spec L2
open PyProof.Rows hiding St
def Zbr : ∀ {ns : List Int} {us : List Value}, Vals (ns.map V.int) us -> IntsAre us ns
 | [], us, h => by cases h; exact .nil
 | n :: ns, us, h => by
  cases h with
  | cons h1 h2 =>
   obtain ⟨t, rfl⟩ := h1
   exact .cons n t (Zbr h2)
theorem Ze4 : ∀ {ns : List Int} {us : List Value}, IntsAre us ns -> Vals (ns.map V.int) us
 | _, _, .nil => .nil
 | _, _, .cons n t h => .cons ⟨t, rfl⟩ (Ze4 h)
section
variable {X : Cx} {e : Expr} {t : TA} {p p' pos pos' : Pos}
theorem Zf4 {pins : List (Addr × Obj)} {Z : St} {H : Hp} {s : Shared} (I : Inv X pins Z H s) (d : Drawn) : Inv X pins Z H { s with drawn := d } := ⟨I.ok, I.os, I.bare, I.base, I.loc, I.cell, I.free, I.freeC, I.pin, I.hok, I.len⟩
theorem SetI.few {prog : Program} {w : World} {h : Heap} {a : Addr} {S : Int -> Prop} {n : Nat} (x : SetI prog w h a S n) (hb : ∀ k, S k -> 0 <= k /\ k < 60) : SetI prog w h a S 60 := by
 obtain ⟨o, es, ep, t, ho, hex, hd, hT, hf, hA, hN, hM, hz⟩ := x
 refine ⟨o, es, ep, t, ho, hex, hd, hT, hf, hA, hN, hM, ?_⟩
 have hs : es.toList.map JA ⊆ (List.range 60).map λk : Nat => (k : Int) := λk hk => by
  obtain ⟨h1, h2⟩ := hb k ((hM k).mp hk)
  exact Yk.mpr ⟨k.toNat, Vg.mpr (by omega), by omega⟩
 have := V1 hN hs
 simpa using this
def ZeW : List V -> Hp -> VK -> Prop := λxs H Q => ∃ (a : Addr) (ns : List Int), xs = [.ref a] /\ H a = some (.lst (ns.map V.int)) /\ ns.length < 4000 /\ (∀ k ∈ ns, 0 <= k /\ k < 60) /\
 ∀ l H2 (ks : List Int), H l = none -> Same H H2 -> H2 l = some (.lst (ks.map V.int)) -> ks.Pairwise (· < ·) -> (∀ k, k ∈ ks ↔ k ∈ ns) -> Q (.ref l) H2
def ZjT (hg : Gl X "sorted") (hm : X.mg "sorted" = none) (hg2 : Gl X "set") (hm2 : X.mg "set" = none) (ha : QA X [e] t) (hp : Zn e = true := by rfl) (hc : X.calm = true := by rfl) :
  QE X (.Call (.Name "sorted" p) [.Call (.Name "set" p') [e] [] pos'] [] pos) (tCB ZeW t) := ⟨by
 intro pins s Z H Q I h
 refine Y2 (Jp I hg hm (show bootBuiltins "sorted" = some (.builtin "sorted") by decide +kernel) ?_ (by decide) (by decide))
 refine PyProof.Rows.callWith_builtin1 ?_ rfl rfl
 show wpAny _ _ (spliced ((false, eval (.Call (.Name "set" p') [e] [] pos') X.env) :: [])) _ _ s
 refine YaA ?_
 refine Y2 (Jp I hg2 hm2 (show bootBuiltins "set" = some (.type "set") by decide +kernel) ?_ (by decide) (by decide))
 refine Y9 (ZR (ha.h pos' pins s Z H _ I h) λus s1 ⟨vs, H1, I1, r1, q1⟩ => ?_) (Zi hp) rfl
 obtain ⟨a, ns, rfl, e1, hl, hb, q⟩ := q1
 obtain ⟨u, rfl, ru⟩ := Jq r1
 cases ru
 obtain ⟨_, its, n, hv, g⟩ := I1.hok a _ e1
 have hi := Zbr hv
 refine ZfP (I1.ok.hd hc) ⟨_, g, rfl, n, rfl⟩ (by simpa using hi) (by have : scanBound = 4096 := rfl; omega) λh' tk hS hk => Calls.spliced_nil ?_
 refine ZhT (s := { s1 with heap := h', toks := tk }) (I1.ok.hd hc) (hS.few λk hk => hb k hk) (by decide) λh2 d tk2 D out ks c hk2 hle g2 i1 i2 i3 => ?_
 have hD : s1.heap.objs.size <= D := Yh (Ys hS.lt) hle
 have hf : H1 D = none := I1.hok.fresh hD
 have hkl : ks.length <= sizeLine := by
  have hs : ks ⊆ (List.range 60).map λk : Nat => (k : Int) := λk hk => by
   obtain ⟨h1, h2⟩ := hb k ((i3 k).mp hk)
   exact Yk.mpr ⟨k.toNat, Vg.mpr (by omega), by omega⟩
  have hnd : ks.Nodup := i2.imp λh e => by rw [e] at h; exact Int.lt_irrefl _ h
  have := V1 hnd hs
  exact Nat.le_trans (by simpa using this) (show 60 <= sizeLine by decide)
 exact ⟨.ref D, upd H1 D (.lst (ks.map V.int)), Zf4 (I1.laid (t' := tk2) (o := .lst (ks.map V.int)) (λb u e => hk2 b u (hk b u e)) hD (show ObjOk X.prog X.w _ h2 _ (.lst (ks.map V.int)) from ⟨by simpa using hkl, out.toList, c, Ze4 i1, by simpa using g2⟩)) d, rfl, q D _ ks hf (ZG hf _) upd_same i2 i3⟩⟩
end
section
variable {X : Cx} {a b o e : Expr} {es : List Expr} {ta tb to te : TE} {t : TA} {name : Str} {apos cpos pos p p2 : Pos} {id : String} {r : V -> List V -> Hp -> VK -> Prop}
def ZpY (ha : QE X a ta) (hb : QE X b tb) (hs : Zdi b := by intro _ _; rfl) : QE X (.Subscript a b pos) (tOp ZqG ta tb) := ⟨ZkO ZpG ha.h hb.h hs⟩
def ZqL : V -> Option Int -> Option Int -> Hp -> VK -> Prop := λx lo hi H Q => ∃ z, x = .str z /\ z.length <= 1000 /\ Q (.str (Txt.slice z lo hi)) H
def ZgZ : Value -> Option (Int × Tok)
 | .int i t => some (i, t)
 | _ => none
def Zjh {v : Value} {o : Option Int} (h : IsPart v o) : partValue (ZgZ v) = v /\ (ZgZ v).map (·.1) = o := by
 cases h with
 | none => exact ⟨rfl, rfl⟩
 | int i t => exact ⟨rfl, rfl⟩
def Zo0 : SlR X ZqL := by
 intro pins s Z H x v vl vu lo hi sl Q I rx hs pl pu h
 obtain ⟨z, rfl, hz, q⟩ := h
 obtain ⟨t, rfl⟩ := rx
 obtain ⟨e1, e2⟩ := Zjh pl
 obtain ⟨e3, e4⟩ := Zjh pu
 obtain ⟨os, g1, g2, g3⟩ := hs
 have hz2 : z.length <= sizeLine := Yh hz (by decide)
 refine ⟨"str", _, F.slot_str_getitem.lookup, typeIs_str _ _ _, ?_⟩
 refine wpAny_getItem_str_slice (l := ZgZ vl) (u := ZgZ vu) (st := none) ⟨os, g1, g2, by rw [e1, e3]; exact g3⟩ rfl ?_
 subst e2
 subst e4
 exact post_val_or_str ⟨Yh (Txt.slice_le z _ _) hz2, λt' k => ⟨.str _, H, I.tok _, ⟨_, rfl⟩, q⟩⟩
def Zp8 (ha : QE X a ta) (hb : QE X b tb) : QE X (.Subscript a (.Slice none (some b) none p2) pos) (tSl ZqL ta Zet (Zln tb)) := ⟨Zlb Zo0 ha.h Zoq (Zoy hb.h)⟩
def tXm (r : V -> List V -> Hp -> VK -> Prop) (to : TE) (t : TA) : TE := λZ H Q => to Z H λx H1 => ∃ z, x = .str z /\ t Z H1 λvs H2 => r x vs H2 Q
def Zpe (slot : Slot "str" name id) (hty : typeOf (.builtin id) = pure (.type "method_descriptor")) (hm : MtM X id r) (ho : PE X o to) (ha : PA X (e :: es) t)
  (hbase : attributeBase o name X.env (eval o X.env) = eval o X.env := by rfl)
  (hfew : ((backTo cpos (starEach (e :: es) X.env)).all (λx => !x.1) && (backToKw cpos (keywordEach [] X.env)).all (λx => x.1.isSome)
   && decide ((e :: es).length + ([] : List Keyword).length + (if ([] : List Keyword).isEmpty then 0 else 1) < 30)) = true := by rfl)
  (hline : (apos.endLine == cpos.line) = true := by rfl) (hs : starEach (e :: es) X.env = (false, eval e X.env) :: starEach es X.env := by rfl) (hplain : (backTo cpos (starEach es X.env)).any (·.1) = false := by rfl) :
  PE X (.Call (.Attribute o name apos) (e :: es) [] cpos) (tXm r to t) := by
 intro pins s Z H Q I h
 refine wpAny_Call_method_late hbase hfew hline rfl (ZR (ho pins s Z H _ I h) λv s1 ⟨x, H1, I1, r1, z, e1, q1⟩ => ?_)
 subst e1
 obtain ⟨tk, rfl⟩ := r1
 refine ⟨"str", id, PySem.F.plainAttrs_str, slot, hty, typeIs_str _ _ _, (λ_ e => nomatch e), ?_⟩
 have hA := ha cpos pins s1 Z H1 _ I1 q1
 rw [hs] at hA ⊢
 refine VF (by show (false || (backTo cpos (starEach es X.env)).any (·.1)) = false; rw [hplain] <;> rfl) (V6 ?_)
 exact ZR hA λus s2 ⟨vs, H2, I2, r2, q2⟩ => hm pins s2 Z H2 (.str z) vs _ us Q I2 ⟨tk, rfl⟩ r2 q2
def Zl6 : V -> List V -> Hp -> VK -> Prop := λx vs H Q => ∃ z y, x = .str z /\ vs = [.str y] /\ Q (.int (Txt.find z y)) H
def ZnK : MtM X "str.find" Zl6 := by
 intro pins s Z H x vs v us Q I rx rv h
 obtain ⟨z, y, rfl, rfl, q⟩ := h
 obtain ⟨t, rfl⟩ := rx
 obtain ⟨u, rfl, ru⟩ := Jq rv
 obtain ⟨t2, rfl⟩ := ru
 exact SC.find ⟨.int _, H, I.tok _, ⟨_, rfl⟩, q⟩
def ZpB (ho : QE X o to) (ha : QA X [e] t) (hbase : attributeBase o "find" X.env (eval o X.env) = eval o X.env := by rfl) (hline : (apos.endLine == cpos.line) = true := by rfl) (hp : Zn e = true := by rfl) :
  QE X (.Call (.Attribute o "find" apos) [e] [] cpos) (tXm Zl6 to t) := ⟨Zpe F.slot_str_find F.type_str_find ZnK ho.h ha.h hbase (by rw [Zi hp]; rfl) hline (Zi hp) rfl⟩
theorem ZbX : ∀ {ss : List Str} {us : List Value}, Vals (ss.map V.str) us -> StrsAre us ss
 | [], us, h => by cases h; exact .nil
 | x :: ss, us, h => by
  cases h with
  | cons h1 h2 =>
   obtain ⟨t, rfl⟩ := h1
   exact .cons x t (ZbX h2)
theorem ZdE : ∀ {ss : List Str} {us : List Value}, StrsAre us ss -> Vals (ss.map V.str) us
 | _, _, .nil => .nil
 | _, _, .cons x t h => .cons ⟨t, rfl⟩ (ZdE h)
def Zmj : V -> List V -> Hp -> VK -> Prop := λx vs H Q => ∃ z a ss, x = .str z /\ vs = [.ref a] /\ H a = some (.lst (List.map V.str ss)) /\ z.length <= 16 /\ (ss.map (·.length)).sum + ss.length <= 1048576 /\ Q (.str (Txt.join z ss)) H
def ZoH : MtM X "str.join" Zmj := by
 intro pins s Z H x vs v us Q I rx rv h
 obtain ⟨z, a, ss, rfl, rfl, e, h1, h2, q⟩ := h
 obtain ⟨t, rfl⟩ := rx
 obtain ⟨u, rfl, ru⟩ := Jq rv
 cases ru
 obtain ⟨_, its, n, hv, g⟩ := I.hok a _ e
 exact join_listW ⟨_, g, rfl, n, rfl⟩ (by simpa using ZbX hv) h1 h2 λt' k => ⟨.str _, H, I.tok _, ⟨_, rfl⟩, q⟩
def ZoY (ho : QE X o to) (ha : QA X [e] t) (hbase : attributeBase o "join" X.env (eval o X.env) = eval o X.env := by rfl) (hline : (apos.endLine == cpos.line) = true := by rfl) (hp : Zn e = true := by rfl) :
  QE X (.Call (.Attribute o "join" apos) [e] [] cpos) (tXm Zmj to t) := ⟨Zpe F.slot_str_join F.type_str_join ZoH ho.h ha.h hbase (by rw [Zi hp]; rfl) hline (Zi hp) rfl⟩
def ZgR (z : Str) (ss : List Str) : (Txt.join z ss).length <= (ss.map (·.length)).sum + ss.length * z.length := by
 show (Builtin.Str.glued z ss).length <= _
 rw [StrLaws.glued_eq_join]
 exact StrLaws.join_length_le z ss
end
def leS (a b : Str) : Prop := a.cps.toList <= b.cps.toList
def Zpq {a b : Str} (h : (!ltCps b.cps.toList a.cps.toList) = true) : leS a b := by
 rw [ltCps_eq, Bool.not_eq_true', decide_eq_false_iff_not] at h
 exact List.not_lt.mp h
def Zfj : ∀ (p : Str) (l : List Str), risingS p l = true -> (p :: l).Pairwise leS
 | p, [], _ => List.pairwise_singleton ..
 | p, x :: l, h => by
  unfold risingS at h
  rw [V9] at h
  have ih := Zfj x l h.2
  have hx := Zpq h.1
  refine List.pairwise_cons.mpr ⟨λy hy => ?_, ih⟩
  rcases Ym.mp hy with rfl | hy
  ·exact hx
  ·exact List.le_trans hx ((List.pairwise_cons.mp ih).1 y hy)
theorem Zfq : ∀ {l : List Str}, sortedS l = true -> l.Pairwise leS
 | [], _ => List.Pairwise.nil
 | x :: l, h => Zfj x l h
section
variable {X : Cx} {e : Expr} {t : TA} {p pos : Pos}
def ZcJ : List V -> Hp -> VK -> Prop := λxs H Q => ∃ (a : Addr) (ss : List Str), xs = [.ref a] /\ H a = some (.lst (ss.map V.str)) /\ ss.length < 64 /\ ∀ l H2 (ts : List Str), H l = none -> Same H H2 -> H2 l = some (.lst (ts.map V.str)) -> ts.Pairwise leS -> ts.Perm ss -> Q (.ref l) H2
def Zfx : CallR X (.builtin "sorted") ZcJ := by
 intro pins s Z H xs us Q I r h
 obtain ⟨a, ss, rfl, e, hl, q⟩ := h
 obtain ⟨u, rfl, ru⟩ := Jq r
 cases ru
 obtain ⟨_, its, n, hv, g⟩ := I.hok a _ e
 have hi := ZbX hv
 have hil : its.length = ss.length := by rw [<- hv.length, Yg]
 refine sorted_strs (vs := its) ⟨_, g, rfl, n, rfl⟩ hi (by omega) λout ts o1 o2 o3 => ?_
 have hD : s.heap.objs.size <= s.heap.objs.size + 1 := Vq _
 have hf : H (s.heap.objs.size + 1) = none := I.hok.fresh hD
 have hz1 : ((s.heap.push (seqObj "list" #[] 0)).update s.heap.objs.size (Obj.mapSeq (· ++ its.toArray))).objs.size = s.heap.objs.size + 1 := by rw [Yac, size_push']
 have hk : ∀ b o, s.heap.get? b = some o -> (sortedAll s.heap its out).get? b = some o := λb o eb => by
  have hb := Ye eb
  unfold sortedAll
  exact Za7 (Yl (Y3 hb)) (Yf _ ((Vm _ _ (Vk hb)).trans (Yf _ eb)))
 obtain ⟨c, e1⟩ : ∃ c, (sortedAll s.heap its out).get? (s.heap.objs.size + 1) = some { cls := .type "list", dict := none, data := .seq out c, slots := #[] } := by
  unfold sortedAll
  refine Zb8 (n := 0) ?_
  rw [<- hz1]
  exact Yn _ rfl
 have hol : ts.length <= sizeLine := by rw [o2.length_eq]; exact Yh (Ys hl) (by decide)
 exact ⟨.ref (s.heap.objs.size + 1), upd H (s.heap.objs.size + 1) (.lst (ts.map V.str)), I.laid (t' := s.toks) (o := .lst (ts.map V.str)) hk hD (show ObjOk X.prog X.w _ _ _ (.lst (ts.map V.str)) from ⟨by simpa using hol, out.toList, c, ZdE o1, by simpa using e1⟩), rfl, q _ _ ts hf (ZG hf _) upd_same (Zfq o3) o2⟩
def Ze1 (hg : Gl X "sorted") (hm : X.mg "sorted" = none) (ha : QA X [e] t) (hp : Zn e = true := by rfl) : QE X (.Call (.Name "sorted" p) [e] [] pos) (tCB ZcJ t) :=
 ⟨ZaO Zfx hg hm (by decide +kernel) ha.h (by decide) (by decide) (Zi hp) rfl⟩
end
section
variable {prog : Program} {w : World} {A : Around} {E : Value -> Shared -> Prop} {s : Shared}
def EqIn (prog : Program) (w : World) (A : Around) (s : Shared) (u v : Value) : Prop := ∀ (E : Value -> Shared -> Prop) (Q : Bool -> Shared -> Prop), Q true s -> wpAny (model prog w) A (eqBool u v) Q E s
theorem EqIn.of {A : Around} {u v : Value} (h : SeqAt.EqAt A s u v true) : EqIn prog w A s u v := λE Q q => h prog w E Q q
def EqIn.refs {a b : Addr} (h : ∀ (E : Value -> Shared -> Prop) (Q : Value -> Shared -> Prop), Q (.bool true) s -> wpAny (model prog w) A (richCompare .Eq (.ref a) (.ref b)) Q E s) : EqIn prog w A s (.ref a) (.ref b) := λE Q q => by
 unfold eqBool
 refine YD ?_
 refine VS (λ_ => Ya (Vr (Yb q))) (λ_ => ?_)
 exact Ya (h E _ (Vy q))
def Zlt {l b : Addr} {items items2 : Array Value} {Q : Value -> Shared -> Prop} (hl : s.heap.IsTuple l items) (hb : s.heap.IsTuple b items2) (hz : items.size = items2.size) (hu : A.units < cLine)
  (he : ∀ j (h1 : j < items.size) (h2 : j < items2.size), EqIn prog w A.in1 s items[j] items2[j]) (h : Q (.bool false) s) : wpAny (model prog w) A (richCompare .NotEq (.ref l) (.ref b)) Q E s := by
 obtain ⟨o1, g1, c1, n1, d1⟩ := id hl
 obtain ⟨o2, g2, c2, n2, d2⟩ := id hb
 have t1 : s.TypeIs (.ref l) "tuple" := ⟨o1, g1, c1⟩
 have t2 : s.TypeIs (.ref b) "tuple" := ⟨o2, g2, c2⟩
 refine wpAny_richCompare_same_room (op := .NotEq) t1 t2 F.slot_tuple_ne (YV F.slot_tuple_ne t1 F.entry_tuple_ne ?_ (F.args_tuple_ne_2 _ _)) hu
 show wpAny _ _ (slotArgs "__ne__" 1 ⟨[.ref l, .ref b], []⟩ >>= _) _ _ s
 refine Ya (Yb ?_)
 dsimp only
 refine Ya (Vz (T := "tuple") (b := true) t2 AutoSeq1.sub_tuple_tuple ?_)
 rw [if_neg (by decide)]
 refine Ya (Yay g1 d1 (Ya (Yay g2 d2 ?_)))
 refine Ya (Yab _ (λrest b s' => b.1 = none /\ s' = s /\ ∃ i, rest = (items.toList.zip items2.toList).drop i) _ ?_ ?_ _ _ ⟨rfl, rfl, 0, rfl⟩)
 ·rintro ⟨y, x⟩ rest b' s' ⟨hb', rfl, i, hi⟩
  have hlt : i < (items.toList.zip items2.toList).length := by
   rcases Nat.lt_or_ge i (items.toList.zip items2.toList).length with h' | h'
   ·exact h'
   ·rw [List.drop_of_length_le h'] at hi; cases hi
  have hlt' := hlt
  rw [Vi, YL, YL] at hlt'
  have k1 : i < items.size := by omega
  have k2 : i < items2.size := by omega
  rw [Yak hlt] at hi
  injection hi with hyx hrest
  have hy : y = items[i] := by have := congrArg Prod.fst hyx; simpa using this
  have hx : x = items2[i] := by have := congrArg Prod.snd hyx; simpa using this
  subst hy hx
  refine Ya (he i k1 k2 _ _ ?_)
  rw [if_neg (by decide)]
  exact Yb ⟨rfl, rfl, i + 1, hrest⟩
 ·rintro ⟨b1, b2⟩ s' ⟨hb', rfl, _⟩
  simp only at hb'
  subst hb'
  dsimp only
  refine Yb ⟨_, rfl, ?_⟩
  rw [show Builtin.Tuple.tupleCompareSizes CmpOp.NotEq items.size items2.size = Value.bool false by rw [hz]; simp [Builtin.Tuple.tupleCompareSizes]]
  exact ⟨(λz => nomatch z), h⟩
def ZkN {l b : Addr} {items items2 : Array Value} {Q : Value -> Shared -> Prop} (hl : s.heap.IsTuple l items) (hb : s.heap.IsTuple b items2) (hz : items.size = items2.size) (hu : A.units < cLine)
  (he : ∀ j (h1 : j < items.size) (h2 : j < items2.size), EqIn prog w A.in1 s items[j] items2[j]) (h : Q (.bool true) s) : wpAny (model prog w) A (richCompare .Eq (.ref l) (.ref b)) Q E s := by
 obtain ⟨o1, g1, c1, n1, d1⟩ := id hl
 obtain ⟨o2, g2, c2, n2, d2⟩ := id hb
 have t1 : s.TypeIs (.ref l) "tuple" := ⟨o1, g1, c1⟩
 have t2 : s.TypeIs (.ref b) "tuple" := ⟨o2, g2, c2⟩
 refine wpAny_richCompare_same_room (op := .Eq) t1 t2 F.slot_tuple_eq (YV F.slot_tuple_eq t1 F.entry_tuple_eq ?_ (F.args_tuple_eq_2 _ _)) hu
 show wpAny _ _ (slotArgs "__eq__" 1 ⟨[.ref l, .ref b], []⟩ >>= _) _ _ s
 refine Ya (Yb ?_)
 dsimp only
 refine Ya (Vz (T := "tuple") (b := true) t2 AutoSeq1.sub_tuple_tuple ?_)
 rw [if_neg (by decide)]
 refine Ya (Yay g1 d1 (Ya (Yay g2 d2 ?_)))
 refine Ya (Yab _ (λrest b s' => b.1 = none /\ s' = s /\ ∃ i, rest = (items.toList.zip items2.toList).drop i) _ ?_ ?_ _ _ ⟨rfl, rfl, 0, rfl⟩)
 ·rintro ⟨y, x⟩ rest b' s' ⟨hb', rfl, i, hi⟩
  have hlt : i < (items.toList.zip items2.toList).length := by
   rcases Nat.lt_or_ge i (items.toList.zip items2.toList).length with h' | h'
   ·exact h'
   ·rw [List.drop_of_length_le h'] at hi; cases hi
  have hlt' := hlt
  rw [Vi, YL, YL] at hlt'
  have k1 : i < items.size := by omega
  have k2 : i < items2.size := by omega
  rw [Yak hlt] at hi
  injection hi with hyx hrest
  have hy : y = items[i] := by have := congrArg Prod.fst hyx; simpa using this
  have hx : x = items2[i] := by have := congrArg Prod.snd hyx; simpa using this
  subst hy hx
  refine Ya (he i k1 k2 _ _ ?_)
  rw [if_neg (by decide)]
  exact Yb ⟨rfl, rfl, i + 1, hrest⟩
 ·rintro ⟨b1, b2⟩ s' ⟨hb', rfl, _⟩
  simp only at hb'
  subst hb'
  dsimp only
  refine Yb ⟨_, rfl, ?_⟩
  rw [show Builtin.Tuple.tupleCompareSizes CmpOp.Eq items.size items2.size = Value.bool true by rw [hz]; simp [Builtin.Tuple.tupleCompareSizes]]
  exact ⟨(λz => nomatch z), h⟩
end
section
variable {X : Cx} {pins : List (Addr × Obj)} {Z : St} {H : Hp} {s : Shared} {a b : Expr} {ta tb : TE} {pos : Pos} {k : Nat}
def Zps {kvs : List (ZC × V)} {vs : List (ZC × Value)} (r : KV kvs vs) {i : Nat} {kv : ZC × V} {k : ZC} {v : Value} (h1 : kvs[i]? = some kv) (h2 : vs[i]? = some (k, v)) : kv.1 = k /\ RelV kv.2 v := by
 induction r generalizing i with
 | nil => simp at h1
 | cons h _ ih =>
  cases i with
  | zero =>
   simp at h1 h2
   subst h1
   subst h2
   exact h
  | succ i => exact ih (by simpa using h1) (by simpa using h2)
inductive EqP (H : Hp) : V -> V -> Nat -> Prop where
 | deep {x y : V} {n : Nat} (h : EqD H x y true n) : EqP H x y n
 | dct {a b : Addr} {ka kb : List (ZC × V)} {n : Nat} (ha : Rd H a (.dK ka)) (hb : Rd H b (.dK kb)) (hl : ka.length = kb.length) (h : ∀ (j : Nat) x y, ka[j]? = some x -> kb[j]? = some y -> x.1 = y.1 /\ EqD H x.2 y.2 true n) (hN : (ka.map (·.1)).Nodup) : EqP H (.ref a) (.ref b) (n + 2)
 | tup {a b : Addr} {xs ys : List V} {n : Nat} (ha : H a = some (.tup xs)) (hb : H b = some (.tup ys)) (hl : xs.length = ys.length) (h : ∀ (j : Nat) x y, xs[j]? = some x -> ys[j]? = some y -> EqP H x y n) : EqP H (.ref a) (.ref b) (n + 2)
theorem ZbV : ∀ {vs : List (ZC × Value)} {j : Nat} {k : ZC} {y : Value}, (vs.map (·.1)).Nodup -> vs[j]? = some (k, y) -> valueAt vs k = some y
 | [], j, k, y, _, h => by simp at h
 | (k', y') :: vs, 0, k, y, _, h => by
  simp at h
  obtain ⟨rfl, rfl⟩ := h
  simp [valueAt]
 | (k', y') :: vs, j + 1, k, y, hN, h => by
  rw [Yr, Y6] at hN
  have hm : (k, y) ∈ vs := List.mem_of_getElem? (by simpa using h)
  have hne : k' ≠ k := λe => hN.1 (Yk.mpr ⟨_, hm, e.symm⟩)
  have ih := ZbV hN.2 (show vs[j]? = some (k, y) by simpa using h)
  unfold valueAt at ih ⊢
  rw [List.find?_cons_of_neg (by simpa using hne)]
  exact ih
def Zju {A : Around} {vb : List (ZC × Value)} (hN : (vb.map (·.1)).Nodup) : ∀ {va : List (ZC × Value)} (i : Nat), (∀ (j : Nat) k v, va[j]? = some (k, v) -> ∃ y, vb[i + j]? = some (k, y) /\ SeqAt.EqAt A s v y true) -> KeqHits A s vb va true
 | [], _, _ => .nil
 | (k, v) :: va, i, h => by
  obtain ⟨y, h1, h2⟩ := h 0 k v rfl
  exact .hit (e := true) (ZbV hN h1) h2 (Zju hN (i + 1) λj k v e => by
   have := h (j + 1) k v e
   rw [show i + 1 + j = i + (j + 1) by omega]
   exact this)
theorem EqP.at (I : Inv X pins Z H s) {x y : V} {n : Nat} (h : EqP H x y n) : ∀ {A : Around} {u v : Value}, RelV x u -> RelV y v -> A.units + n < cLine -> EqIn X.prog X.w A s u v /\ ((∃ a c, x = .ref a /\ y = .ref c) ->
  (∀ (E : Value -> Shared -> Prop) (Q : Value -> Shared -> Prop), Q (.bool true) s -> wpAny (model X.prog X.w) A (richCompare .Eq u v) Q E s) /\ ∀ (E : Value -> Shared -> Prop) (Q : Value -> Shared -> Prop), Q (.bool false) s -> wpAny (model X.prog X.w) A (richCompare .NotEq u v) Q E s) := by
 induction h with
 | deep h =>
  intro A u v r1 r2 hu
  obtain ⟨z1, z2⟩ := h.at I r1 r2 hu
  exact ⟨.of z1, λw => ⟨λE Q q => z2 w _ _ E Q q, λE Q q => h.neAt I r1 r2 hu w _ _ E Q q⟩⟩
 | @dct a b ka kb n ha hb hl h hN =>
  intro A u v r1 r2 hu
  cases r1
  cases r2
  obtain ⟨_, n1, va, kv1, d1⟩ := JM I.hok ha
  obtain ⟨_, n2, vb, kv2, d2⟩ := JM I.hok hb
  have hkeys : ka.map (·.1) = kb.map (·.1) := Yaw λj => by
   rw [Yi, Yi]
   by_cases c : j < ka.length
   ·have c2 : j < kb.length := by omega
    rw [Yc c, Yc c2]
    exact congrArg some (h j _ _ (Yc c) (Yc c2)).1
   ·rw [YY (by omega), YY (by omega)]
  have hNb : (vb.map (·.1)).Nodup := by rw [<- kv2.keys, <- hkeys]; exact hN
  have lA : va.length = ka.length := kv1.length.symm
  have lB : vb.length = kb.length := kv2.length.symm
  have hits : ∀ A : Around, A.units + n < cLine -> KeqHits A s vb va true := λA hA => Zju hNb 0 λj k v e => by
   have hj : j < ka.length := by rw [<- lA]; exact (Yj.mp e).1
   have hj2 : j < kb.length := by omega
   obtain ⟨p1, r1⟩ := Zps kv1 (Yc hj) e
   obtain ⟨q, e2⟩ : ∃ q, vb[j]? = some q := ⟨_, Yc (by omega)⟩
   obtain ⟨p2, r2⟩ := Zps kv2 (Yc hj2) (show vb[j]? = some (q.1, q.2) from e2)
   obtain ⟨p3, hd⟩ := h j _ _ (Yc hj) (Yc hj2)
   refine ⟨q.2, ?_, (hd.at I r1 r2 hA).1⟩
   rw [Nat.zero_add, e2, <- p1, p3, p2]
  have e1 : ∀ (E : Value -> Shared -> Prop) (Q : Value -> Shared -> Prop), Q (.bool true) s -> wpAny (model X.prog X.w) A (richCompare .Eq (.ref a) (.ref b)) Q E s := λE Q q =>
   PySem.W.keq_eq (A := A) n1 n2 d1 d2 (by omega) (r := true) (λ_ => hits _ (by show A.units + 1 + n < cLine; omega)) (by rw [show (va.length == vb.length && true) = true by rw [lA, lB, hl]; simp]; exact q)
  refine ⟨EqIn.refs e1, λ_ => ⟨e1, λE Q q => ?_⟩⟩
  exact PySem.W.keq_ne (A := A) n1 n2 d1 d2 (by omega) (r := true) (λ_ => hits _ (by show A.units + 1 + n < cLine; omega)) (by rw [show (!(va.length == vb.length && true)) = false by rw [lA, lB, hl]; simp]; exact q)
 | @tup a b xs ys n ha hb hl h ih =>
  intro A u v r1 r2 hu
  cases r1
  cases r2
  obtain ⟨its, v1, t1, _⟩ := I.tuple (SqT.of ha)
  obtain ⟨jts, v2, t2, _⟩ := I.tuple (SqT.of hb)
  have he : ∀ j (h1 : j < its.toArray.size) (h2 : j < jts.toArray.size), EqIn X.prog X.w A.in1 s its.toArray[j] jts.toArray[j] := λj h1 h2 => by
   have k1 : j < xs.length := by rw [v1.length]; simpa using h1
   have k2 : j < ys.length := by rw [v2.length]; simpa using h2
   obtain ⟨u1, q1, w1⟩ := v1.get (Yc k1)
   obtain ⟨u2, q2, w2⟩ := v2.get (Yc k2)
   have g1 : its.toArray[j] = u1 := by obtain ⟨hh, this⟩ := List.getElem?_eq_some_iff.mp q1; simpa using this
   have g2 : jts.toArray[j] = u2 := by obtain ⟨hh, this⟩ := List.getElem?_eq_some_iff.mp q2; simpa using this
   rw [g1, g2]
   exact (ih j _ _ (Yc k1) (Yc k2) w1 w2 (by show A.units + 1 + n < cLine; omega)).1
  have hz : its.toArray.size = jts.toArray.size := by simp [<- v1.length, <- v2.length, hl]
  have e1 : ∀ (E : Value -> Shared -> Prop) (Q : Value -> Shared -> Prop), Q (.bool true) s -> wpAny (model X.prog X.w) A (richCompare .Eq (.ref a) (.ref b)) Q E s := λE Q q => ZkN t1 t2 hz (by omega) he q
  exact ⟨EqIn.refs e1, λ_ => ⟨e1, λE Q q => Zlt t1 t2 hz (by omega) he q⟩⟩
def ZqE : R2 := λx y H Q => ∃ n a c, x = .ref a /\ y = .ref c /\ EqP H x y n /\ n <= 60 /\ Q (.bl true) H
def ZrF : R2 := λx y H Q => ∃ n a c, x = .ref a /\ y = .ref c /\ EqP H x y n /\ n <= 60 /\ Q (.bl false) H
def Zp5 (hr : Room k X.A) : OpR X (compareOp .Eq) ZqE := by
 intro pins s Z H x y v u Q I rx ry h
 obtain ⟨n, p, c, e1, e2, h, hn, q⟩ := h
 have hu := hr.units
 exact ((h.at I rx ry (by omega)).2 ⟨p, c, e1, e2⟩).1 _ _ ⟨.bl true, H, I, rfl, q⟩
def ZqZ (hr : Room k X.A) (ha : QE X a ta) (hb : QE X b tb) : QE X (.Compare a [.Eq] [b] pos) (tOp ZqE ta tb) := ⟨ZcW (Zp5 hr) ha.h hb.h (JB _)⟩
end
structure BlkM (X : Cx) (ts : List Str) (caps : List Nat) (cs : List Str) (sc : Scope) (cl : List (Str × Addr)) (x : Str) : Prop where
 clos : closureFor sc X.env = pure cl
 kind : sc.kind = .function
 own : ∀ n, cellsFrom n sc.names cl = (x, n) :: cl
 own0 : ∀ n, cellsFrom n sc.names [] = [(x, n)]
 loc : ∀ y ∈ sc.names, y.2 = .local -> sc.names.lookup y.1 = some .local
 sub : ∀ y c, cl.lookup y = some c -> X.env.cells.lookup y = some c
 has : ∀ y, ((relabel sc X.env).names.lookup y = some .cell \/ (relabel sc X.env).names.lookup y = some .free) -> y = x \/ ∃ c, cl.lookup y = some c
 len : caps.length = cs.length
 cap : ∀ (k : Nat) i y, caps[k]? = some i -> cs[k]? = some y -> X.N[i]? = some y /\ (X.env.kindOf y = some .cell \/ X.env.kindOf y = some .free)
 capK : ∀ y ∈ cs, (relabel sc X.env).names.lookup y = some .cell \/ (relabel sc X.env).names.lookup y = some .free
 capX : ∀ y ∈ cs, y ≠ x
section
variable {X : Cx} {pins : List (Addr × Obj)} {Z : St} {H : Hp} {s : Shared} {ts cs : List Str} {caps : List Nat} {sc : Scope} {cl : List (Str × Addr)} {fp : List Addr} {x : Str}
variable {tg it elt : Expr} {pos : Pos} {wi : TI} {g : TG} {te : TE}
end
section
variable {prog : Program} {w : World} {A : Around} {E : Value -> Shared -> Prop} {s : Shared}
def ZfI {T : String} {r d : Addr} {n : Nat} {Pi : Nat -> Value -> Prop} {OK : Heap -> Prop} {Q : List Value -> Shared -> Prop} (Ks : PySem.W.KdlSrc prog w T r d n Pi OK) (hh : A.handled = none) (hok : OK s.heap) (hn : n <= sizeLine)
  (h : ∀ h' tk (acc : Array Value), (∀ b o, s.heap.get? b = some o -> h'.get? b = some o) -> ItemsOf Pi acc n -> s.heap.objs.size <= h'.objs.size -> Q acc.toList { s with heap := h', toks := tk }) :
  wpAny (model prog w) A (collect (.ref r)) Q E s := by
 unfold collect
 refine Ya (wpAny_runValue (Vf entry_proto_collect' ?_))
 rw [Vv F.plain_proto_collect _]
 show wpAny _ A.in1 (newList [] >>= λl => again (.builtin "list.__iadd__" ⟨[l, .ref r], []⟩)) _ _ s
 refine Ya (Vh ?_)
 refine Yb ⟨VY YaH _, Vf entry_list_iadd' ?_⟩
 rw [Vv YaH _]
 show wpAny _ A.in1 (Builtin.List.listExtendWith (.ref s.heap.objs.size) (.ref r) (.ref s.heap.objs.size)) _ _ _
 have lt := Ks.there _ hok
 have key := PySem.W.kdl_extend (A := A) (s := { s with heap := s.heap.push (ZdM 0) })
  (R := λ(q : Result) (s' : Shared) => ∃ (h' : Heap) (tk : Nat) (acc : Array Value) (c' : Nat), q = .ok (.ret (.ref s.heap.objs.size)) /\ s' = { s with heap := h', toks := tk } /\ (∀ b o, s.heap.get? b = some o -> h'.get? b = some o) /\
   h'.get? s.heap.objs.size = some { cls := .type "list", dict := none, data := .seq acc c', slots := #[] } /\ ItemsOf Pi acc n)
  Ks hh (Ks.keep _ _ hok λb _ o e => Yf _ e) s.heap.objs.size (Vk lt.1) (Vk lt.2) (.ref s.heap.objs.size) 0 (Yn _ rfl)
  (λh' tk acc c' hk g i1 => ⟨h', tk, acc, c', rfl, rfl, λb o e => hk b o (Yl (Ye e)) (Yf _ e), g, i1⟩) hn
 refine Yp key (λfin s' x => ?_) λe s' x => ?_
 ·cases fin with
  | done f =>
   obtain ⟨h', tk, acc, c', e, rfl, hk, g, i1⟩ := x
   cases e
   show wpAny _ A (load s.heap.objs.size >>= _) _ _ _
   exact Ya (VC g (Yb (h h' tk acc hk i1 (Ys (Ye g)))))
  | again c₁ =>
   refine ⟨x.1, YN x.2 λq s₂ y => ?_⟩
   obtain ⟨h', tk, acc, c', rfl, rfl, hk, g, i1⟩ := y
   show wpAny _ A (load s.heap.objs.size >>= _) _ _ _
   exact Ya (VC g (Yb (h h' tk acc hk i1 (Ys (Ye g)))))
 ·obtain ⟨_, _, _, _, e', _⟩ := x
  cases e'
end
section
variable {X : Cx} {c d : Expr} {p pos : Pos} {ta : TA}
def Zrz (hg : Gl X "max") (hm : X.mg "max" = none) (ha : QA X [c, d] ta) (hp : Zn c = true := by rfl) (hq : Zn d = true := by rfl) (hc : X.calm = true := by rfl) :
  QE X (.Call (.Name "max" p) [c, d] [] pos) (tCB (λxs H Q => ∃ i j, xs = [.int i, .int j] /\ Q (.int (if j > i then j else i)) H) ta) := ⟨ZaO (ZjO hc) hg hm (by decide +kernel) ha.h (by decide) (by decide) (Zi hp) (by rw [Zi hq]; rfl)⟩
def ZgO : List V -> Hp -> VK -> Prop := λxs H Q => ∃ (a : Addr) (kvs : List (ZC × V)) (ss : List Str), xs = [.ref a] /\ Rd H a (.dK kvs) /\ (kvs.map λkv => kV kv.1) = ss.map V.str /\ ss.length < 64 /\ ∀ l H2 (ts : List Str), H l = none -> Same H H2 -> H2 l = some (.lst (ts.map V.str)) -> ts.Pairwise leS -> ts.Perm ss -> Q (.ref l) H2
def ZhZ (hc : X.calm = true) : CallR X (.builtin "sorted") ZgO := by
 intro pins s Z H xs us Q I r h
 obtain ⟨a, kvs, ss, rfl, e, hss, hl, q⟩ := h
 obtain ⟨u, rfl, ru⟩ := Jq r
 cases ru
 obtain ⟨z, hd, vs, rel, dd⟩ := JM I.hok e
 obtain ⟨ep, at_⟩ := dd.dictAt
 have hkl : kvs.length = ss.length := by have := congrArg List.length hss; simpa using this
 refine Calls.call_function_entry kind_sorted plain_sorted entry_sorted (args_sorted1 _) ?_
 unfold Builtin.«sorted»
 refine Ya (m := checkCount "sorted" 1 1 _) (Yb ?_)
 refine Ya (ZfI (A := X.A.in1) (kdl_dict hd) (I.ok.hd hc) at_ (by rw [<- rel.length]; exact z) λh' tk acc hk hacc hD => ?_)
 obtain ⟨hs, hacc⟩ := hacc
 have hsz : acc.size = ss.length := by rw [hs, <- rel.length, hkl]
 have hv : Vals (ss.map V.str) acc.toList := by
  rw [<- hss]
  refine Zdt ?_ λi x u e1 e2 => ?_
  ·rw [Yg, hkl, YL]; exact hsz.symm
  ·obtain ⟨k, x', g1, g2⟩ := hacc i u (by simpa using e2)
   have hi : i < kvs.length := by have := (List.getElem?_eq_some_iff.mp e1).1; simpa using this
   obtain ⟨kv, v, g3, g4⟩ := Zko rel hi
   rw [g1] at g4
   cases g4
   rw [Yi, g3] at e1
   cases e1
   exact Zlm g2
 have hS := ZbX hv
 have hal : acc.toList.length < 64 := by rw [YL, hsz]; exact hl
 refine Ya (VX ?_ (Yh (Ys hal) (by decide)))
 have hoL : (h'.push (seqObj "list" acc.toList.toArray 0)).get? h'.objs.size = some (seqObj "list" acc.toList.toArray 0) := Yn _ rfl
 refine Ya (YD (YV slot_list_sort ⟨_, hoL, rfl⟩ entry_list_sort (list_sort_treeK strKind_oneLt hoL hS.keysOf (λv₁ v₂ rest e => keyKind_strs (by rw [<- e]; exact hS)) hal λst' hp hs' => ⟨_, rfl, ?_⟩) (args_list_sort _)))
 obtain ⟨ts, h1, h2, h3⟩ := sorted_out_str hS hp hs'
 obtain ⟨c, e1⟩ := Zb8 hoL (out := (arrOf st').map (·.2))
 have hf : H h'.objs.size = none := I.hok.fresh hD
 have hol : ts.length <= sizeLine := by rw [h2.length_eq]; exact Yh (Ys hl) (by decide)
 refine Yb ⟨_, rfl, ?_⟩
 exact ⟨.ref h'.objs.size, upd H h'.objs.size (.lst (ts.map V.str)), I.laid (t' := tk) (o := .lst (ts.map V.str)) (λb o eb => Za7 (Nat.ne_of_lt (Nat.lt_of_lt_of_le (Heap.lt_size eb) hD)) (Heap.get?_push_of_some _ (hk b o eb))) hD (show ObjOk X.prog X.w _ _ _ (.lst (ts.map V.str)) from ⟨by simpa using hol, ((arrOf st').map (·.2)).toList, c, ZdE h1, by rw [Array.toArray_toList]; exact e1⟩), rfl, q _ _ ts hf (ZG hf _) upd_same (Zfq h3) h2⟩
def Zm9 {e : Expr} {t : TA} (hg : Gl X "sorted") (hm : X.mg "sorted" = none) (ha : QA X [e] t) (hp : Zn e = true := by rfl) (hc : X.calm = true := by rfl) : QE X (.Call (.Name "sorted" p) [e] [] pos) (tCB ZgO t) :=
 ⟨ZaO (ZhZ hc) hg hm (by decide +kernel) ha.h (by decide) (by decide) (Zi hp) rfl⟩
end
def Zd4 : ∀ {ns : List Int} {us : List Value}, Vals (ns.map V.int) us -> ∃ ps : List (Int × Tok), us = ps.map (λp => Value.int p.1 p.2) /\ ps.map (·.1) = ns
 | [], us, h => by cases h; exact ⟨[], rfl, rfl⟩
 | n :: ns, us, h => by
  cases h with
  | cons h1 h2 =>
   obtain ⟨t, rfl⟩ := h1
   obtain ⟨ps, rfl, e⟩ := Zd4 h2
   exact ⟨(n, t) :: ps, rfl, by rw [Yr, e]⟩
def ZdD {ps : List (Int × Tok)} : ∀ i, i <= ps.length -> preSum (numAt ps.toArray) i = ((ps.map (·.1)).take i).sum
 | 0, _ => rfl
 | i + 1, h => by
  have hi : i < ps.length := h
  show preSum (numAt ps.toArray) i + numAt ps.toArray i = _
  rw [ZdD i (Ys hi), Yw, Yi, Yc hi]
  simp [numAt, hi]
section
variable {X : Cx} {e : Expr} {t : TA} {p pos : Pos}
def ZkC : List V -> Hp -> VK -> Prop := λxs H Q => ∃ (a : Addr) (ns : List Int), xs = [.ref a] /\ H a = some (.lst (ns.map V.int)) /\ Q (.int ns.sum) H
def Ziz (hc : X.calm = true) : CallR X (.builtin "sum") ZkC := by
 intro pins s Z H xs us Q I r h
 obtain ⟨a, ns, rfl, e, q⟩ := h
 obtain ⟨u, rfl, ru⟩ := Jq r
 cases ru
 obtain ⟨_, its, n, hv, g⟩ := I.hok a _ e
 obtain ⟨ps, rfl, ens⟩ := Zd4 hv
 have hL : s.heap.IsList a (intItems ps.toArray) := ⟨_, g, rfl, n, by simp [intItems]⟩
 refine call_sum_walkG (iter_intList hL λs₂ es st hfp hlI => ?_)
 subst es
 refine ⟨_, _, _, _, _, _, numAt ps.toArray, rfl, Walks.list (A := X.A.in1) (I.ok.hd hc) _ a hlI (intItems ps.toArray), st, hfp, (λ_ _ => intItems_at), λh' tk t' hk => ?_⟩
 have hsz : (intItems ps.toArray).size = ps.length := by simp [intItems]
 rw [hsz, ZdD _ (Yd _), ens, List.take_of_length_le (by rw [<- ens, Yg]; exact Yd _)]
 exact ⟨.int ns.sum, H, I.kept (old_kept hk), ⟨t', rfl⟩, q⟩
def Zjj (hg : Gl X "sum") (hm : X.mg "sum" = none) (ha : QA X [e] t) (hp : Zn e = true := by rfl) (hc : X.calm = true := by rfl) : QE X (.Call (.Name "sum" p) [e] [] pos) (tCB ZkC t) :=
 ⟨ZaO (Ziz hc) hg hm (by decide +kernel) ha.h (by decide) (by decide) (Zi hp) rfl⟩
end
section
variable {X : Cx} {pins : List (Addr × Obj)} {Z : St} {H : Hp} {s : Shared} {a : Addr} {kvs : List (ZC × V)}
end
section
variable {X : Cx} {o e f : Expr} {apos cpos : Pos} {td ty tx : TE}
end
section
variable {X : Cx} {a b : Expr} {p2 pos : Pos} {tx tb : TE}
end
end My
set_option maxHeartbeats 4000000
namespace L2
open PySem PySem.Spec PyProof.Rows PySem.W
def ZfG (H : Hp) (P : Addr) (q : Str) : Prop := ∃ t, H P = some (.tbl #[.str q t])
def Zde (mg : Str -> Option Value) (h : Heap) : Prop := ∃ bm o, mg "__builtins__" = some (.ref bm) /\ bm ≠ builtinsNs /\ h.get? bm = some o /\ o.cls = .type "module" /\ o.dict = some builtinsNs /\ o.data = .plain
def ZjK {P : Program} {w : World} {K : PySem.W.Frag} {mg mb : Str -> Option Value} {CX : CXT} {k : Nat} {fa a : Addr} {fd : FuncData} {x : Str} {sp : Sp} {s₁ : Shared} {vs : List Value} {ns : List Int} {T : Addr -> Option Str}
  (KX : K.In s₁.heap) (hns : s₁.heap.Ns mainGlobals mg) (hb : s₁.heap.Ns builtinsNs mb) (hbb : ∀ x : Str, x ≠ "__name__" -> mb x = bootBuiltins x) (hlim : s₁.heap.NoLimit) (hg : s₁.gens = #[])
  (ha : s₁.heap.get? a = some { cls := .type "list", data := .seq vs.toArray }) (hi : IntsAre vs ns) (hl : ns.length <= sizeLine) (hr : Room k callerA)
  (hT : ∀ b q, T b = some q -> (∃ c, CodeHd s₁.heap c b) /\ s₁.heap.get? b = some (tabObj #[])) (hKT : ∀ b q, T b = some q -> K.lookup b = none)
  (hB : Zde mg s₁.heap) (F : ∀ base : Heap, K.In base -> base.Ns mainGlobals mg -> Zde mg base -> FnOk P w K mg base CX k fa fd [x] sp) (hbind : ∀ (s : Shared) (u : Value), BindsTo s fd ⟨[u], []⟩ [(x, u)])
  (hsp : ∀ H : Hp, (∀ b q, T b = some q -> ZfG H b q) -> SqL K H a (ns.map V.int) -> sp [.ref a] H (λv _ => v = .bl true) λ_ _ _ => False)
  (hCX : ∀ H e s', CX [] H s₁ (λ_ _ _ => False) e s' -> False) :
  codeAny (model P w) callerA (.call (.ref fa) ⟨[.ref a], []⟩) (λr s' => r = .ok (.ret (.bool true)) /\ OldK s₁.heap s'.heap /\ s'.os = s₁.os /\ AllBare s'.gens) s₁ := by
 have rv := Zbr hi
 have lenV := hi.length
 let so : Obj := { cls := .type "list", data := .seq vs.toArray }
 have hTa : T a = none := by
  cases q : T a with
  | none => rfl
  | some z =>
   have e := (hT a z q).2
   rw [ha] at e
   cases e
 -- what may be tracked: the script, or a table
 have core : ∀ H : Hp, (∀ b u, H b = some u -> (b = a /\ K.lookup a = none /\ u = .frz so (.lst (ns.map V.int))) \/ ∃ q, T b = some q /\ u = .tbl #[.str q 0]) -> (∀ b q, T b = some q -> ZfG H b q) -> SqL K H a (ns.map V.int) ->
   codeAny (model P w) callerA (.call (.ref fa) ⟨[.ref a], []⟩) (λr s' => r = .ok (.ret (.bool true)) /\ OldK s₁.heap s'.heap /\ s'.os = s₁.os /\ AllBare s'.gens) s₁ := by
  intro H hO hTH hS
  have hok : HOk P w H s₁.heap := λb u e => by
   rcases hO b u e with ⟨rfl, _, rfl⟩ | ⟨q, hq, rfl⟩
   ·exact ⟨ha, by rw [Yg]; exact hl, vs, _, rv, ha⟩
   ·exact ⟨#[], (hT b q hq).2, trivial, λpos v z => by cases z⟩
  have free : ∀ {b : Addr} {o : Obj}, s₁.heap.get? b = some o -> (∀ xs n, o.data ≠ .seq xs n) -> (∀ ps, o.data ≠ .fields ps) -> H b = none := λ{b o} e d1 d2 => by
   cases q : H b with
   | none => rfl
   | some u =>
    rcases hO b u q with ⟨rfl, _, _⟩ | ⟨z, hz, _⟩
    ·rw [ha] at e; cases e; exact absurd rfl (d1 _ _)
    ·rw [(hT b z hz).2] at e; cases e; exact absurd rfl (d2 _)
  have nsK : ∀ {b : Addr} {m : Str -> Option Value}, s₁.heap.Ns b m -> (Zl4 s₁.heap H).Ns b m := λ{b m} ⟨o, es, ep, e, d, r⟩ =>
   ⟨o, es, ep, ZeG e (free e (λ_ _ z => by rw [d] at z; cases z) λ_ z => by rw [d] at z; cases z), d, r⟩
  have hKb : K.In (Zl4 s₁.heap H) := λb o e => ZeG (KX b o e) (by
   cases q : H b with
   | none => rfl
   | some u =>
    rcases hO b u q with ⟨rfl, z, _⟩ | ⟨z, hz, _⟩
    ·rw [z] at e; cases e
    ·rw [hKT b z hz] at e; cases e)
  have hM : Mod K mg (Zl4 s₁.heap H) := ⟨hKb, nsK hns, ⟨mb, nsK hb, hbb⟩, let ⟨mc, h1, h2⟩ := hlim; ⟨mc, nsK h1, h2⟩⟩
  have hBb : Zde mg (Zl4 s₁.heap H) := by
   obtain ⟨bm, o, b1, b2, b3, b4, b5, b6⟩ := hB
   exact ⟨bm, o, b1, b2, ZeG b3 (free b3 (λ_ _ z => by rw [b6] at z; cases z) λ_ z => by rw [b6] at z; cases z), b4, b5, b6⟩
  have e0 : Env0 P w K mg (Zl4 s₁.heap H) callerA [] s₁ H := ⟨rfl, hM, λb o e => Zou e, Nat.le_of_eq (Zix _ _), trivial, λb hb => absurd (show b ∈ ([] : List Addr) from hb) (by simp), hok, .of_eq hg⟩
  refine YN ((F _ hKb (nsK hns) hBb).run callerA [] s₁ H ⟨[.ref a], []⟩ [.ref a] [.ref a] _ _ hr e0 (hbind s₁ (.ref a)) (.cons rfl .nil) (hsp H hTH hS)) λr s' h => ?_
  match r, h with
  | .error e, h => exact (hCX H e s' h).elim
  | .ok .next, h => exact False.elim h
  | .ok .brk, h => exact False.elim h
  | .ok .cont, h => exact False.elim h
  | .ok (.ret u), h =>
   obtain ⟨v, H', os, bare, un, hok', r', q⟩ := h
   have q' : v = .bl true := q
   subst q'
   obtain rfl : u = Value.bool true := r'
   have kept : ∀ b o, s₁.heap.get? b = some o -> s'.heap.get? b = some o \/ ∃ ps, o = tabObj #[] /\ isCodeTable s₁.heap b /\ s'.heap.get? b = some (tabObj ps) := λb o e => by
    cases q : H b with
    | none => exact .inl (un.keep b o e q (by intro z; exact absurd (show b ∈ ([] : List Addr) from z) (by simp)) (by simp))
    | some u =>
     rcases hO b u q with ⟨rfl, _, rfl⟩ | ⟨z, hz, rfl⟩
     ·obtain ⟨e2, _⟩ := hok' b _ (un.frzs b _ _ q)
      rw [ha] at e
      cases e
      exact .inl e2
     ·obtain ⟨more, q2⟩ := un.tbls b _ q
      obtain ⟨ps, e2, _⟩ := hok' b _ q2
      obtain ⟨⟨c, hc⟩, e3⟩ := hT b z hz
      rw [e3] at e
      cases e
      exact .inr ⟨ps, rfl, (hc.tab e3).isCodeTable, e2⟩
   refine ⟨rfl, ⟨λb o e => ?_, λb o e => ?_⟩, os, bare⟩
   ·rcases kept b o e with z | ⟨ps, rfl, ht, z⟩
    ·exact .inl z
    ·exact .inr (.inl ⟨ht, rfl, #[], ps, rfl, by rw [Array.empty_append]; exact z⟩)
   ·rcases kept b o e with z | ⟨ps, rfl, ht, z⟩
    ·exact ⟨o, z⟩
    ·exact ⟨_, z⟩
 cases hk : K.lookup a with
 | some o =>
  have e := KX a o hk
  rw [ha] at e
  cases e
  refine core (λb => (T b).map λq => .tbl #[.str q 0]) (λb u z => ?_) (λb q z => ⟨0, by simp [z]⟩) (.inr ⟨_, vs.toArray, _, hk, rfl, rfl, rfl, by rw [List.size_toArray, lenV]; exact hl, by simpa using rv⟩)
  obtain ⟨q, h1, h2⟩ := YG.mp z
  exact .inr ⟨q, h1, h2.symm⟩
 | none =>
  refine core (λb => if b = a then some (.frz so (.lst (ns.map V.int))) else (T b).map λq => .tbl #[.str q 0]) (λb u z => ?_) (λb q z => ⟨0, ?_⟩) (.inl (.inr ⟨so, if_pos rfl⟩))
  ·by_cases hb : b = a
   ·have z' := (if_pos hb).symm.trans z
    cases z'
    exact .inl ⟨hb, hk, rfl⟩
   ·have z' := (if_neg hb).symm.trans z
    obtain ⟨q, h1, h2⟩ := YG.mp z'
    exact .inr ⟨q, h1, h2.symm⟩
  ·have hb : b ≠ a := λe => by rw [e, hTa] at z; cases z
   show (if b = a then some (HO.frz so (.lst (ns.map V.int))) else (T b).map λq => .tbl #[.str q 0]) = _
   rw [if_neg hb, z]
   rfl
def Zhf (pos pos' : Pos) (c : Value) (l : List Value) (h : TriplesOk l) (v : Value) (e : codeAmong pos' (l ++ [rawInt pos.line, rawInt pos.col, c]) = some v) : codeAmong pos' l = some v \/ v = c := by
 fun_induction TriplesOk l with
 | case1 =>
  simp only [List.nil_append, codeAmong, rawInt] at e
  split at e
  ·cases e; exact .inr rfl
  ·cases e
 | case2 a t b u x rest ih =>
  simp only [List.cons_append, codeAmong] at e ⊢
  split at e
  ·rename_i q
   rw [if_pos q]
   exact .inl e
  ·rename_i q
   rw [if_neg q]
   exact ih h e
 | case3 => exact h.elim
def Zsf (P : Addr) (q : Str) (clos : List (Str × Addr)) (params : Arguments) (body : Expr) (scope : Scope) : TE := λ_ H Q =>
 ∃ t, H P = some (.tbl #[.str q t]) /\ ∀ (f c' : Addr) (oc : Obj) (pm ctv : Value) (vs : Array Value) (t' : Tok) (H2 : Hp), H f = none -> H2 f = some (.frz (kla_obj "<lambda>" q params body scope clos pm c' ctv) (.own P)) ->
  H2 c' = some (.frz oc (.own P)) -> oc.data = .fields vs -> vs[1]? = some (.str q t') -> Same H H2 -> Q (.ref f) H2
def Zp7 {X : Cx} {params : Arguments} {body : Expr} {scope : Scope} {pos : Pos} {c P : Addr} {q : Str} {clos : List (Str × Addr)} (hdef : defaultsOf params X.env = ([], [])) (hcl : closureFor scope X.env = pure clos) (hcode : X.env.code = .ref c)
  (hC : CodeHd X.base c P) (hb : X.base.BuiltinsAt X.mg P) (hq : X.env.qual ++ "<lambda>" = q) : PE X (.Lambda params body scope pos) (Zsf P q clos params body scope) := by
 intro pins s Z H Q I ⟨t, hP, k⟩
 subst hq
 obtain ⟨qs, e, ht, hf⟩ := I.hok P _ hP
 have hgs : s.heap.Ns mainGlobals X.mg := I.ok.mod.glob.keeps I.bk
 obtain ⟨bm, ob, b1, b2, b3, b4, b5, b6⟩ := hb
 have hb' : s.heap.BuiltinsAt X.mg P := ⟨bm, ob, b1, b2, b3, b4, I.bk _ _ b5, b6⟩
 have hgP : mainGlobals ≠ P := λz => by
  obtain ⟨o, es, ep, e1, _⟩ := I.ok.mod.glob
  have := (I.bs _ _ e1).2
  rw [z, hP] at this
  cases this
 have same : ∀ {f : Addr} {u : HO}, H f = none -> Same H (upd H f u) := λh b o z => by rw [Ze (Zp z h)]; exact z
 cases hn : codeAmong pos qs.toList with
 | some v =>
  obtain ⟨c', oc, vs, q0, t0, t1, rfl, h1, h2, h3, h4⟩ := hf pos v hn
  have hq0 : q0 = X.env.qual ++ "<lambda>" := by
   have h5 : some (Value.str (X.env.qual ++ "<lambda>") t) = some (.str q0 t1) := h4
   cases h5
   rfl
  subst hq0
  refine kla_eval hdef (kla_makeFunctionHit (mg := X.mg) hcl I.ok.glob hgs hcode (hC.keeps I.bk) e ht hn hb' λctv h' tk hk hsz => ?_)
  have hF : H h'.objs.size = none := I.hok.fresh hsz
  refine ⟨.ref h'.objs.size, upd H h'.objs.size (.frz _ (.own P)), I.laid (t' := tk) (λb o z => Yf _ (hk b o z)) hsz ⟨Yn _ rfl, ⟨_, Yn _ rfl⟩⟩, rfl, ?_⟩
  exact k _ c' oc _ ctv vs t0 _ hF upd_same (same hF _ _ h1) h2 h3 (same hF)
 | none =>
  refine kla_eval hdef (kla_makeFunction (mg := X.mg) hcl I.ok.glob hgs hcode (hC.keeps I.bk) e ht hn hgP hb' λc' ctv h' tk hx hge hlt hrec htb => ?_)
  obtain ⟨c2, oc, vs, t2, e2, hoc, hd, hv⟩ := hrec
  cases e2
  have hc : H c' = none := I.hok.fresh hge
  have hF0 : s.heap.objs.size <= h'.objs.size := Yh hge (Ys hlt)
  have hF : H h'.objs.size = none := I.hok.fresh hF0
  have hne : c' ≠ h'.objs.size := Yl hlt
  let fo : Obj := kla_obj "<lambda>" (X.env.qual ++ "<lambda>") params body scope clos ((X.mg "__name__").getD .none) c' ctv
  let H1 : Hp := upd H c' (.frz oc (.own P))
  let H2 : Hp := upd H1 h'.objs.size (.frz fo (.own P))
  have hF1 : H1 h'.objs.size = none := by show upd H c' _ _ = _; rw [Ze (Ne.symm hne)]; exact hF
  have old : ∀ b o, H b = some o -> H2 b = some o := λb o z => by
   show upd H1 _ _ b = _
   rw [Ze (Zp (same hc b o z) hF1)]
   exact same hc b o z
  have keep : ∀ b u, b ≠ P -> s.heap.get? b = some u -> (h'.push fo).get? b = some u := λb u hb z => Yf _ (hx b u hb z)
  have neP : ∀ b, H b = none -> b ≠ P := λb z w => by rw [w, hP] at z; cases z
  have atc : H2 c' = some (.frz oc (.own P)) := by show upd H1 _ _ c' = _; rw [Ze hne]; exact upd_same
  have tab : (h'.push fo).get? P = some (tabObj (qs ++ #[rawInt pos.line, rawInt pos.col, .ref c'])) := Yf _ htb
  have un : Un X.fs [] H H2 s.heap (h'.push fo) := ⟨λb o z n _ _ => keep b o (neP b n) z, λb o z n _ _ => ⟨o.slots, keep b o (neP b n) z⟩, λb o z n _ => by
    have hlt : b < s.heap.objs.size := Ye z
    show upd H1 _ _ b = _
    rw [Ze (Yl (Yo hlt hF0))]
    show upd H _ _ b = _
    rw [Ze (Yl (Yo hlt hge))]
    exact n, λb o z _ => by
    by_cases w : b = P
    ·subst w; exact ⟨_, tab⟩
    ·exact ⟨o, keep b o w z⟩, λb xs z => old b _ z, λb o u z => old b _ z, λb ps z => ⟨#[], by rw [Array.append_empty]; exact old b _ z⟩⟩
  have hok : HOk X.prog X.w H2 (h'.push fo) := λb u z => by
   by_cases w1 : b = h'.objs.size
   ·subst w1
    have z' : some (HO.frz fo (.own P)) = some u := upd_same.symm.trans z
    cases z'
    exact ⟨Yn _ rfl, ⟨_, Yn _ rfl⟩⟩
   ·by_cases w2 : b = c'
    ·subst w2
     rw [atc] at z
     cases z
     exact ⟨Yf _ hoc, ⟨_, Yf _ hoc⟩⟩
    ·have z' : H b = some u := by
      have z2 : upd H1 h'.objs.size (.frz fo (.own P)) b = some u := z
      rw [Ze w1] at z2
      have z3 : upd H c' (.frz oc (.own P)) b = some u := z2
      rw [Ze w2] at z3
      exact z3
     by_cases w3 : b = P
     ·subst w3
      rw [hP] at z'
      cases z'
      refine ⟨_, tab, ?_, λpos' v g => ?_⟩
      ·rw [Array.toList_append]; exact TriplesOk_snoc _ _ _ _ ht
      ·rw [Array.toList_append] at g
       rcases Zhf pos pos' _ _ ht v g with g | g
       ·obtain ⟨c3, o3, v3, q3, t3, t4, g1, g2, g3⟩ := hf pos' v g
        exact ⟨c3, o3, v3, q3, t3, t4, g1, old _ _ g2, g3⟩
       ·exact ⟨c', oc, vs, _, t2, t, g, atc, hd, hv, rfl⟩
     ·refine (I.hok b u z').stay (λx v hxx g => keep x v (λw => ?_) g) (λx g => old x _ g) (λx xs g => old x _ g) λx o g => old x _ g
      rcases hxx with w4 | w4
      ·exact w3 (w4.symm.trans w)
      ·rw [w, hP] at w4
       cases w4
  exact ⟨.ref h'.objs.size, H2, I.un (t' := tk) un hok, rfl, k _ c' oc _ ctv vs t2 H2 hF upd_same atc hd hv old⟩
theorem ZbG {u : Value} {y : Str} : ∀ {ps : List Str} {us : List Value} {i : Nat}, ps.Nodup -> us.length = ps.length -> ps[i]? = some y -> us[i]? = some u -> (ps.zip us).reverse.lookup y = some u
 | [], _, _, _, _, h, _ => by simp at h
 | _ :: _, [], _, _, h, _, _ => by simp at h
 | p :: ps, v :: us, 0, nd, _, h1, h2 => by
  simp at h1 h2
  subst h1 h2
  rw [List.zip_cons_cons, List.reverse_cons]
  have : (ps.zip us).reverse.lookup p = none := by
   rw [List.lookup_eq_none_iff]
   intro z hz
   have hz' := (VP (a := z.1) (b := z.2) (List.mem_reverse.mp hz)).1
   simp only [beq_eq_false_iff_ne, ne_eq, Bool.not_eq_true, bne_iff_ne]
   intro e
   exact (Y6.mp nd).1 (by rw [e]; exact hz')
  rw [List.lookup_append, this]
  simp
 | p :: ps, v :: us, i + 1, nd, hl, h1, h2 => by
  rw [List.zip_cons_cons, List.reverse_cons, List.lookup_append, ZbG (List.nodup_cons.mp nd).2 (by simpa using hl) (by simpa using h1) (by simpa using h2)]
  rfl
def Zmd (CX : CXT) (P : Program) (w : World) (K : PySem.W.Frag) (mg : Str -> Option Value) (base : Heap) (N : List Str) (q : Str) (scope : Scope) (f c' : Addr) (clos : List (Str × Addr)) (A : Around) (outer : List Env) (s : Shared) (H : Hp) (E : XK) : Cx where
 prog := P
 w := w
 K := K
 mg := mg
 base := base
 A := A.deeper (envX q scope s.heap.objs.size f (.ref c') clos)
 N := N
 s₀ := s
 H₀ := H
 env := envX q scope s.heap.objs.size f (.ref c') clos
 outer := outer
 stack := envX q scope s.heap.objs.size f (.ref c') clos :: outer
 ex := []
 calm := true
 fn := λ_ => false
 pn := []
 xe := λe s' => wpAny (model P w) (A.deeper (envX q scope s.heap.objs.size f (.ref c') clos)) (leaving (envX q scope s.heap.objs.size f (.ref c') clos) e) (λ_ s'' => CX outer H s E e s'') (λe' s'' => CX outer H s E e' s'') s'
structure LamScope (ps fs : List Str) (sc : Scope) (clos : List (Str × Addr)) : Prop where
 kind : sc.kind = .function
 co : sc.isCoroutine = false
 gen : sc.isGenerator = false
 nd : (ps ++ fs).Nodup
 par : ∀ x ∈ ps, sc.names.lookup x = some .local
 fre : ∀ x ∈ fs, sc.names.lookup x = some .free
 nocell : ∀ y ∈ sc.names, y.2 ≠ .cell
 has : ∀ y, sc.names.lookup y = some .free -> ∃ c, clos.lookup y = some c
structure Frees (fs : List Str) (ws : List V) (clos : List (Str × Addr)) (outer : List Env) (H : Hp) (h : Heap) : Prop where
 len : fs.length = ws.length
 val : ∀ (i : Nat) (x : Str) (v : V), fs[i]? = some x -> ws[i]? = some v -> ∃ c u, clos.lookup x = some c /\ RelV v u /\ h.IsCell c (some u)
 cell : ∀ x c, clos.lookup x = some c -> (∃ v, h.IsCell c v) /\ H c = none
 inj : ∀ x y c, clos.lookup x = some c -> clos.lookup y = some c -> x = y
def ZoU {CX : CXT} {P : Program} {w : World} {K : PySem.W.Frag} {mg : Str -> Option Value} {base : Heap} {k : Nat} {f c' : Addr} {q : Str} {params : Arguments} {body : Expr} {scope : Scope} {clos : List (Str × Addr)} {pm ctv : Value} {ps fs : List Str}
  {A : Around} {outer : List Env} {s : Shared} {H : Hp} {args : Args} {us : List Value} {vs ws : List V} {Q : VK} {E : XK} {t : TE}
  (hr : Room (k + 1) A) (e0 : Env0 P w K mg base A outer s H) (ho : s.heap.get? f = some (kla_obj "<lambda>" q params body scope clos pm c' ctv)) (hcd : s.heap.CodeRec (.ref c') q)
  (hbind : bindArgs (kla_fn "<lambda>" q params body scope clos pm (.ref c') ctv) args = pure (ps.zip us)) (hl : vs.length = ps.length) (r : Vals vs us) (S : LamScope ps fs scope clos) (W : Frees fs ws clos outer H s.heap)
  (hbody : PE (Zmd CX P w K mg base (ps ++ fs) q scope f c' clos A outer s H E) body t) (hq : t ((vs ++ ws).map some) H Q) : codeAny (model P w) A (.call (.ref f) args) (CR CX outer P w H s Q E) s := by
 have lim : s.heap.NoLimit := e0.mod.nolimit.keeps λb o e => (e0.bs b o e).1
 have hlu : us.length = ps.length := by rw [<- r.length]; exact hl
 refine kla_callFunE (by have := hr.dp; omega) ho rfl S.co S.gen rfl hcd ?_
 rw [hbind]
 refine Yb (wpAny_newFunctionEnv S.nocell (λy hy => S.par _ (VP hy).1) (λh₁ hns hsb => ⟨lim.fresh _ hsb, ?_⟩) S.kind)
 show codeAny _ _ (.expr body (envX q scope s.heap.objs.size f (.ref c') clos)) _ _
 have hk : ∀ b o, s.heap.get? b = some o -> h₁.get? b = some o := λb o e => hsb.extBut b o (Yl (Ye e)) (Yf _ e)
 have I : Inv (Zmd CX P w K mg base (ps ++ fs) q scope f c' clos A outer s H E) [] ((vs ++ ws).map some) H { s with heap := h₁, toks := s.toks + (ps.zip us).length } := by
  have noA : ∀ b : Addr, b ∉ (Zmd CX P w K mg base (ps ++ fs) q scope f c' clos A outer s H E).ex := λb z => absurd (show b ∈ ([] : List Addr) from z) (by simp)
  refine ⟨⟨e0.mod, S.kind, rfl, rfl, Yd _, W.inj, λy hy => ?_, λy c z _ => absurd z Yy, λ_ => hr.hd, Around.frames_deeper e0.frames, .inr ⟨rfl, rfl⟩, λb z => absurd z (noA b), e0.bs, e0.bsz, λb _ _ => noA b, λb z => absurd z (noA b), e0.funs, e0.frf⟩,
   rfl, e0.bare, Un.kept hk, ⟨_, hns, λi y v h1 h2 h3 => ?_⟩, λy c h => ?_, e0.hok.fresh (Nat.le_refl _), λy c h => (W.cell y c h).2, λp hp => absurd (show p ∈ ([] : List (Addr × Obj)) from hp) (by simp), e0.hok.kept hk, ?_⟩
  ·have hy : scope.names.lookup y = some .cell \/ scope.names.lookup y = some .free := hy
   rcases hy with hy | hy
   ·exact absurd rfl (S.nocell _ (Vc hy))
   ·exact S.has y hy
  ·have h1 : (ps ++ fs)[i]? = some y := h1
   rw [Yi] at h2
   obtain ⟨v', h2, h4⟩ := YG.mp h2
   cases h4
   by_cases hi : i < ps.length
   ·rw [Va hi] at h1
    rw [Va (by omega)] at h2
    obtain ⟨u, hu, rv⟩ := r.get h2
    refine ⟨u, rv, .inl ⟨S.par y (Yq h1), ?_⟩⟩
    have nd : ps.Nodup := (Yav.mp S.nd).1
    exact ZbG nd hlu h1 hu
   ·rw [YX (by omega)] at h1
    rw [YX (by omega), hl] at h2
    obtain ⟨c, u, g1, g2, g3⟩ := W.val _ y v h1 h2
    obtain ⟨o, g4, g5⟩ := g3
    exact ⟨u, g2, .inr ⟨.inr (S.fre y (Yq h1)), c, g1, o, hk _ _ g4, g5⟩⟩
  ·obtain ⟨⟨v, o, g1, g2⟩, _⟩ := W.cell y c h
   exact ⟨v, o, hk _ _ g1, g2⟩
  ·show ((vs ++ ws).map some).length = (ps ++ fs).length
   rw [Yg, YS, YS, hl, W.len]
 refine kla_codeExpr (Yp (hbody [] _ _ H Q I hq) (λv s' hs => ?_) λe s' hs => hs)
 obtain ⟨x, H', J, rv, g⟩ := hs
 exact ⟨x, H', J.os, J.bare, J.base, J.hok, rv, g⟩
end L2
namespace My
open PySem PySem.Spec L2
open PyProof.Rows hiding St
def Zrh (h : Heap) (ex : List Addr) : List (Addr × Obj) := (List.range h.objs.size).filterMap λa => if a ∈ ex then none else (h.get? a).map λo => (a, o)
theorem mem_led3 {h : Heap} {ex : List Addr} {a : Addr} {o : Obj} : (a, o) ∈ Zrh h ex ↔ a ∉ ex /\ h.get? a = some o := by
 unfold Zrh
 rw [List.mem_filterMap]
 constructor
 ·rintro ⟨b, _, e⟩
  split at e
  ·cases e
  ·rename_i hb
   obtain ⟨o', ho, e'⟩ := YG.mp e
   cases e'
   exact ⟨hb, ho⟩
 ·rintro ⟨n1, ho⟩
  refine ⟨a, Vg.mpr (Ye ho), ?_⟩
  rw [if_neg n1, ho] <;> rfl
def ZdJ (b : Bool) (ks : List Int) (xs ys : List V) : Prop := ∃ ps : List (Int × V), ps.Perm (ks.zip xs) /\ ys = ps.map Prod.snd /\ ps.Pairwise (λp q => if b then q.1 <= p.1 else p.1 <= q.1)
def Zj2 {zs : List (Int × V)} {ws ps : List (Int × Value)} (h : Paired (λ(p : Int × V) (q : Int × Value) => p.1 = q.1 /\ RelV p.2 q.2) zs ws) (p : ps.Perm ws) : ∃ qs : List (Int × V), qs.Perm zs /\ Paired (λ(p : Int × V) (q : Int × Value) => p.1 = q.1 /\ RelV p.2 q.2) qs ps := by
 induction p generalizing zs with
 | nil => exact ⟨zs, .refl _, h⟩
 | @cons x l1 l2 _ ih =>
  cases h with
  | @cons a b as bs h1 h2 =>
   obtain ⟨qs, g1, g2⟩ := ih h2
   exact ⟨_ :: qs, .cons _ g1, .cons h1 g2⟩
 | @swap x y l =>
  cases h with
  | @cons a b as bs h1 h2 =>
   cases h2 with
   | @cons c d cs ds h3 h4 => exact ⟨_, .swap _ _ _, .cons h3 (.cons h1 h4)⟩
 | @trans l1 l2 l3 _ _ ih1 ih2 =>
  obtain ⟨q2, g1, g2⟩ := ih2 h
  obtain ⟨q1, g3, g4⟩ := ih1 g2
  exact ⟨q1, g3.trans g1, g4⟩
def ZgB : ∀ {ks : List Int} {xs : List V} {vs : List Value}, Vals xs vs -> Paired (λ(p : Int × V) (q : Int × Value) => p.1 = q.1 /\ RelV p.2 q.2) (ks.zip xs) (ks.zip vs)
 | [], _, _, _ => by rw [List.zip_nil_left, List.zip_nil_left]; exact .nil
 | _ :: _, _, _, .nil => .nil
 | k :: ks, _, _, .cons h1 h2 => .cons ⟨rfl, h1⟩ (ZgB h2)
def Zlw {b : Bool} {ks : List Int} {xs : List V} {vs out : List Value} (hv : Vals xs vs) (h : KskOut b ks vs out) : ∃ ys, Vals ys out /\ ZdJ b ks xs ys := by
 obtain ⟨ps, h1, rfl, h3⟩ := h
 obtain ⟨qs, g1, g2⟩ := Zj2 (ZgB (ks := ks) hv) h1
 refine ⟨qs.map Prod.snd, ?_, qs, g1, rfl, ?_⟩
 ·clear h1 h3 g1
  induction g2 with
  | nil => exact .nil
  | cons h _ ih => exact .cons h.2 ih
 ·clear h1 g1
  induction g2 with
  | nil => exact .nil
  | @cons p q ps' qs' h t ih =>
   rw [List.pairwise_cons] at h3 ⊢
   refine ⟨λx hx => ?_, ih h3.2⟩
   have : ∃ y ∈ qs', x.1 = y.1 := by
    clear ih h3
    induction t with
    | nil => cases hx
    | cons h' _ ih' =>
     rcases Ym.mp hx with rfl | hx
     ·exact ⟨_, Vd .., h'.1⟩
     ·obtain ⟨y, hy, e⟩ := ih' hx
      exact ⟨y, YZ _ hy, e⟩
   obtain ⟨y, hy, e⟩ := this
   have := h3.1 y hy
   rw [h.1, e]
   exact this
section
variable {X : Cx} {pins : List (Addr × Obj)} {Z : St} {H : Hp} {s : Shared} {l : Addr} {xs : List V} {ks : List Int} {b : Bool} {f : Value} {kw : List (Str × Value)} {E : Value -> Shared -> Prop} {Q : Value -> Shared -> Prop}
def Zli {D kS : Addr} {oK oD : Obj} {H1 : Hp} {s1 : Shared} {h' : Heap} {tk c : Nat} {out : Array Value} {ys : List V} (I : Inv X (pins ++ [(kS, oK), (D, oD)]) Z H1 s1) (fD : Jv X pins H1 D) (fK : Jv X pins H1 kS)
  (ns : ∀ m, s1.heap.Ns X.env.locals m -> h'.Ns X.env.locals m) (kp : ∀ a o, a ≠ X.env.locals -> a ≠ kS -> a ≠ D -> s1.heap.get? a = some o -> h'.get? a = some o) (eD : h'.get? D = some (seqObj "list" out c)) (hz : ys.length <= sizeLine) (hv : Vals ys out.toList) :
  Inv X pins Z (upd H1 D (.lst ys)) { s1 with heap := h', toks := tk } := by
 have I0 : Inv X pins Z H1 s1 := I.unpinned
 have ne : ∀ {a : Addr} {o : HO}, H1 a = some o -> a ≠ D /\ a ≠ kS := λe => ⟨Zp e fD.1, Zp e fK.1⟩
 have off : ∀ {a : Addr} {o : HO}, H1 a = some o -> upd H1 D (.lst ys) a = some o := λe => by rw [Ze (ne e).1]; exact e
 refine I0.step (g' := s1.gens) (d' := s1.drawn) (t' := tk) (ch := [kS, D]) (λa ha => ?_) (λa o h1 _ hc e _ => ?_) (λa o h1 _ hc e _ => ?_) (λa o hc e n => ?_) (λa o hc e => ?_) (λa zs e => off e) (λa o u e => off e) (λa ps e => ⟨#[], by rw [Array.append_empty]; exact off e⟩) ns (λa u e => ?_) I0.bare
 ·rcases Ym.mp ha with rfl | ha
  ·exact ⟨fK.2.2.2.1, fK.2.1, fK.2.2.2.2.1, fK.2.2.2.2.2⟩
  ·rw [YB.mp ha]
   exact ⟨fD.2.2.2.1, fD.2.1, fD.2.2.2.2.1, fD.2.2.2.2.2⟩
 ·exact kp a o h1 (λz => hc (by simp [z])) (λz => hc (by simp [z])) e
 ·exact ⟨o.slots, kp a o h1 (λz => hc (by simp [z])) (λz => hc (by simp [z])) e⟩
 ·rw [Ze (λz => hc (by simp [z]))]
  exact n
 ·by_cases z : a = X.env.locals
  ·subst z
   obtain ⟨m, hn, _⟩ := I0.loc
   obtain ⟨o', _, _, e', _⟩ := ns m hn
   exact ⟨o', e'⟩
  ·exact ⟨o, kp a o z (λz => hc (by simp [z])) (λz => hc (by simp [z])) e⟩
 ·by_cases z : a = D
  ·subst z
   rw [upd_same] at e
   cases e
   exact ⟨hz, out.toList, c, hv, by simpa using eD⟩
  ·rw [Ze z] at e
   have trk : ∀ c' : Addr, (c' = a \/ H1 c' = some (.own a)) -> c' ≠ X.env.locals /\ c' ≠ kS /\ c' ≠ D := λc' hc => by
    have : ∃ o', H1 c' = some o' := by
     rcases hc with rfl | hc
     ·exact ⟨_, e⟩
     ·exact ⟨_, hc⟩
    obtain ⟨o', e'⟩ := this
    exact ⟨(λw => by rw [w, I0.free] at e'; cases e'), (ne e').2, (ne e').1⟩
   refine (I0.hok a u e).stay (λc' v hc q => ?_) (λc' q => off q) (λc' zs q => off q) λc' o q => off q
   obtain ⟨n1, n2, n3⟩ := trk c' hc
   exact kp c' v n1 n2 n3 q
def ZkP {D kS : Addr} {e1 : Nat} {vs : List Value} {P : PySem.Fin -> Shared -> Prop} {s0 : Shared} {H0 : Hp} (I : Inv X (pins ++ [(kS, seqObj "list" #[] 0), (D, seqObj "list" #[] e1)]) Z H0 s0) (sH : Same H H0) (hHD : H D = none) (fD : Jv X pins H0 D) (fK : Jv X pins H0 kS) (hDK : kS ≠ D) (hv : Vals xs vs) (hlen : ks.length = xs.length) (h64 : xs.length < 64)
  (turn : ∀ (i : Nat) (x : V) (k : Int), xs[i]? = some x -> ks[i]? = some k -> ∀ (pins' : List (Addr × Obj)) (H' : Hp) (s' : Shared) (u : Value), Inv X pins' Z H' s' -> Same H H' -> RelV x u ->
   wpAny (model X.prog X.w) X.A.in1.in1 (call f [u]) (λv s'' => ∃ t H'', v = .int k t /\ Inv X pins' Z H'' s'' /\ Same H' H'') (λ_ _ => False) s')
  (h : ∀ (H' : Hp) (s' : Shared) (ys : List V), Inv X pins Z H' s' -> Same H H' -> H' D = some (.lst ys) -> ZdJ b ks xs ys -> P (.done (.ret .none)) s') :
  wpAny (model X.prog X.w) X.A.in1.in1 (ksk_rest D f b vs.toArray e1 (.ref kS)) P E s0 := by
 have hvl : vs.length = xs.length := hv.length.symm
 have mK : ∀ {oK oD : Obj}, (kS, oK) ∈ X.pn ++ (pins ++ [(kS, oK), (D, oD)]) := Yx _ (Yx _ (.head _))
 have mD : ∀ {oK oD : Obj}, (D, oD) ∈ X.pn ++ (pins ++ [(kS, oK), (D, oD)]) := Yx _ (Yx _ (.tail _ (.head _)))
 unfold ksk_rest
 refine Ya (Vr ?_)
 first
  | rw [List.forIn_toArray]
  | (rw [<- Array.forIn_toList]; simp only [List.toList_toArray])
  | rw [<- Array.forIn_toList]
 refine wpAny_bind (ksk_fold (λi s' => ∃ kA e H', Inv X (pins ++ [(kS, seqObj "list" kA e), (D, seqObj "list" #[] e1)]) Z H' s' /\ Same H H' /\ IntsAre kA.toList (ks.take i)) vs 0 s0 ⟨#[], 0, H0, I, sH, by simpa using IntsAre.nil⟩ ?step ?done)
 case step =>
  rintro j x s' hx ⟨kA, e, H1, I1, sH1, hk⟩
  simp only [Nat.zero_add] at hk ⊢
  have hj : j < vs.length := (Yj.mp hx).1
  obtain ⟨k, hkj⟩ : ∃ k, ks[j]? = some k := ⟨_, Yc (by omega)⟩
  have hxj : xs[j]? = some xs[j] := Yc (by omega)
  obtain ⟨u, hu, rv⟩ := hv.get hxj
  rw [hx] at hu
  cases hu
  have hz : kA.size <= vs.length := by
   have h1 := hk.length
   rw [YL, Y4] at h1
   omega
  refine Ya (VB (Yp (turn j _ k hxj hkj _ H1 s' x I1 sH1 rv) (λv s'' he => ?_) λ_ _ hF => hF.elim))
  obtain ⟨t, H2, rfl, I2, sH2⟩ := he
  try dsimp only
  have nk := I2.pin (kS, seqObj "list" kA e) mK
  have na := I2.pin (D, seqObj "list" #[] e1) mD
  have s1 := Yax s''.heap kS (Obj.mapSeq (·.push (.int k t)))
  obtain ⟨c2, hc2⟩ : ∃ c2, (s''.heap.update kS (Obj.mapSeq (·.push (.int k t)))).get? kS = some (seqObj "list" (kA.push (.int k t)) c2) := ⟨_, Yag nk.1 (·.push (.int k t))⟩
  have ek : ks.take (j + 1) = ks.take j ++ [k] := by rw [List.take_add_one, hkj]; simp
  have ea : (kA.push (Value.int k t)).toList = kA.toList ++ [Value.int k t] := by simp
  refine Ya (listUpdate_at nk.1 rfl ?_ (by rw [YJ]; omega) (Yh (Vp (Array.size_push ..)) (by rw [YJ]; omega)))
  have I3 : Inv X pins Z H2 s'' := I2.unpinned
  have I4 : Inv X pins Z H2 { s'' with heap := s''.heap.update kS (Obj.mapSeq (·.push (.int k t))), toks := s''.toks } := I3.turned (λb o hb q => (s1.2 b hb).trans q) nk.2.1 fK.2.1 fK.2.2.2.1 fK.2.2.2.2.1 fK.2.2.2.2.2
  refine Yb ⟨rfl, kA.push (.int k t), c2, H2, I4.pins_of λp hp => ?_, sH1.trans sH2, by rw [ea, ek]; exact ksk_snoc hk⟩
  rcases Yu.mp hp with hp | hp
  ·exact I4.pin p (Yx _ hp)
  ·rcases Ym.mp hp with rfl | hp
   ·exact ⟨hc2, nk.2.1, nk.2.2.1, nk.2.2.2.1, λv z => by cases z⟩
   ·rw [YB.mp hp]
    exact ⟨(s1.2 D hDK.symm).trans na.1, na.2.1, na.2.2.1, na.2.2.2.1, λv z => by cases z⟩
 case done =>
  rintro s' ⟨kA, e, H1, I1, sH1, hk⟩
  have hk' : IntsAre kA.toList ks := by
   have e3 : ks.take (0 + vs.length) = ks := List.take_of_length_le (by omega)
   rw [e3] at hk
   exact hk
  have nk := I1.pin (kS, seqObj "list" kA e) mK
  have na := I1.pin (D, seqObj "list" #[] e1) mD
  obtain ⟨m0, hn, _⟩ := id I1.loc
  try dsimp only
  refine Ya (listItems_at nk.1 rfl ?_)
  have N : News (Att.noObjs s'.heap) X.env.locals s'.heap (Zrh s'.heap [X.env.locals, kS, D] ++ [(kS, seqObj "list" kA e), (D, seqObj "list" #[] e1)]) := by
   rintro ⟨a, o⟩ hp
   rcases Yu.mp hp with hp | hp
   ·obtain ⟨g1, g2⟩ := mem_led3.mp hp
    exact ⟨g2, λz => g1 (by simp [show a = X.env.locals from z]), Att.noObjs_get _ _⟩
   ·rcases Ym.mp hp with q | hp
    ·cases q
     exact ⟨nk.1, fK.2.1, Att.noObjs_get _ _⟩
    ·cases YB.mp hp
     exact ⟨na.1, fD.2.1, Att.noObjs_get _ _⟩
  refine ksk_end_ (h₀ := Att.noObjs s'.heap) (L := X.env.locals) (m := m0) (Att.fr_all hn) N hDK (λp hp z => ?_) (λp hp z => ?_) hk' (by omega) (by omega) λh3 tk3 out c F3 N3 k3 => ?_
  ·obtain ⟨a, o⟩ := p
   exact (mem_led3.mp hp).1 (by simp [show a = kS from z])
  ·obtain ⟨a, o⟩ := p
   exact (mem_led3.mp hp).1 (by simp [show a = D from z])
  ·obtain ⟨ys, hys, hsk⟩ := Zlw hv k3
   have hyl : ys.length = xs.length := by
    obtain ⟨ps, g1, g2, _⟩ := hsk
    rw [g2, Yg, g1.length_eq, Vi]
    omega
   have fD1 : Jv X pins H1 D := ⟨na.2.1, fD.2⟩
   have fK1 : Jv X pins H1 kS := ⟨nk.2.1, fK.2⟩
   refine h _ _ ys (Zli (tk := tk3) (c := c) (out := out) I1 fD1 fK1 (λm hm => ?_) (λa o n1 n2 n3 q => ?_) (N3 (D, seqObj "list" out c) (Vd ..)).1 (by rw [hyl, YJ]; omega) hys) (Zr hHD sH1) upd_same hsk
   ·rw [hm.eq_nsMap, <- hn.eq_nsMap]
    exact F3.ns
   ·exact (N3 (a, o) (List.mem_cons_of_mem _ (mem_led3.mpr ⟨by simp [n1, n2, n3], q⟩))).1
def Zh5 (I : Inv X pins Z H s) (hl : H l = some (.lst xs)) (h64 : xs.length < 64)
  (ha1 : argsOk "sorted" ⟨[.ref l], kw⟩) (ha2 : ∀ x, argsOk "list.sort" ⟨[.ref x], kw⟩) (ht : ∀ x, Builtin.«list.sort» ⟨[.ref x], kw⟩ = ksk_tree x f b)
  (rest : ∀ (D kS : Addr) (e1 : Nat) (vs : List Value) (s0 : Shared) (P : PySem.Fin -> Shared -> Prop), Inv X (pins ++ [(kS, seqObj "list" #[] 0), (D, seqObj "list" #[] e1)]) Z H s0 -> H D = none -> Jv X pins H D -> Jv X pins H kS -> kS ≠ D -> Vals xs vs ->
   (∀ s', Q (.ref D) s' -> P (.done (.ret .none)) s') -> wpAny (model X.prog X.w) X.A.in1.in1 (ksk_rest D f b vs.toArray e1 (.ref kS)) P E s0) :
  wpAny (model X.prog X.w) X.A (call (.builtin "sorted") [.ref l] kw) Q E s := by
 obtain ⟨hz, vs, n, hv, hvl, e⟩ := I.lstM hl
 have hvl' : vs.length = xs.length := by omega
 refine call_function_entry_kw kind_sorted plain_sorted entry_sorted ha1 ?_
 unfold Builtin.«sorted»
 refine Ya (m := checkCount "sorted" 1 1 _) (Yb ?_)
 refine Ya (collect_list (vs := vs) ⟨_, e, rfl, n, rfl⟩ ?_ (by rw [YJ]; omega))
 refine Ya (VX ?_ (by rw [YJ]; omega))
 have hsz : ((s.heap.push (seqObj "list" #[] 0)).update s.heap.objs.size (Obj.mapSeq (· ++ vs.toArray))).objs.size = s.heap.objs.size + 1 := by
  rw [Yac, size_push']
 have hoL : (((s.heap.push (seqObj "list" #[] 0)).update s.heap.objs.size (Obj.mapSeq (· ++ vs.toArray))).push (seqObj "list" vs.toArray 0)).get? (s.heap.objs.size + 1) = some (seqObj "list" vs.toArray 0) := by
  rw [<- hsz]; exact Yn _ rfl
 have keep : ∀ b o, s.heap.get? b = some o -> (((s.heap.push (seqObj "list" #[] 0)).update s.heap.objs.size (Obj.mapSeq (· ++ vs.toArray))).push (seqObj "list" vs.toArray 0)).get? b = some o := λb o q => by
  have hlt : b < s.heap.objs.size := Ye q
  rw [YaG _ _ _ (by rw [hsz]; exact Yl (Y3 hlt)), Heap.get?_update_ne _ _ _ _ (Yl hlt), YaG _ _ _ (Yl hlt)]
  exact q
 have hsz3 : (((s.heap.push (seqObj "list" #[] 0)).update s.heap.objs.size (Obj.mapSeq (· ++ vs.toArray))).push (seqObj "list" vs.toArray 0)).objs.size = s.heap.objs.size + 2 := by rw [size_push', hsz]
 show wpAny _ _ _ _ _ { s with heap := ((s.heap.push (seqObj "list" #[] 0)).update s.heap.objs.size (Obj.mapSeq (· ++ vs.toArray))).push (seqObj "list" vs.toArray 0) }
 rw [hsz]
 generalize hh3 : ((s.heap.push (seqObj "list" #[] 0)).update s.heap.objs.size (Obj.mapSeq (· ++ vs.toArray))).push (seqObj "list" vs.toArray 0) = h3 at hoL keep hsz3 ⊢
 clear hh3 hsz
 refine Ya (YD (wpAny_call_entry_kw slot_list_sort ⟨_, hoL, rfl⟩ entry_list_sort ?body (ha2 _)))
 case body =>
  have ht' := ht (s.heap.objs.size + 1)
  show wpAny (model X.prog X.w) X.A.in1.in1 (Builtin.«list.sort» ⟨[.ref (s.heap.objs.size + 1)], kw⟩) _ _ _
  rw [ht']
  generalize hD : s.heap.objs.size + 1 = D at hoL ⊢
  obtain ⟨e1, ho1⟩ : ∃ e1, (h3.update D (Obj.mapSeq λ_ => (#[] : Array Value))).get? D = some (seqObj "list" #[] e1) := ⟨_, Yag hoL λ_ => #[]⟩
  have s1 := Yax h3 D (Obj.mapSeq λ_ => (#[] : Array Value))
  have hsz4 : (h3.update D (Obj.mapSeq λ_ => (#[] : Array Value))).objs.size = s.heap.objs.size + 2 := by rw [Yac, hsz3]
  have keep4 : ∀ b o, s.heap.get? b = some o -> (h3.update D (Obj.mapSeq λ_ => (#[] : Array Value))).get? b = some o := λb o q => (s1.2 b (Yl (hD ▸ Y3 (Ye q)))).trans (keep b o q)
  unfold ksk_tree
  refine Ya (listItems_at hoL rfl ?_)
  refine Ya (listUpdate_at hoL rfl ?_ (by rw [YM, YJ]; omega) (YA _))
  refine Ya (seqEpoch_at ho1 rfl ?_)
  refine Ya (wpAny_newTuple ?_ (by show vs.length <= _; rw [YJ]; omega))
  refine Ya (VX ?_ (YA _))
  refine YD ?_
  have hkS : ((h3.update D (Obj.mapSeq λ_ => (#[] : Array Value))).push (seqObj "tuple" vs.toArray 0)).objs.size = s.heap.objs.size + 3 := by rw [size_push', hsz4]
  have keep5 : ∀ b o, s.heap.get? b = some o -> (((h3.update D (Obj.mapSeq λ_ => (#[] : Array Value))).push (seqObj "tuple" vs.toArray 0)).push (seqObj "list" #[] 0)).get? b = some o := λb o q => Yf _ (Yf _ (keep4 b o q))
  have fD : Jv X pins H D := I.fpOk (by omega) (I.hok.fresh (by omega))
  have fK : Jv X pins H (s.heap.objs.size + 3) := I.fpOk (by omega) (I.hok.fresh (by omega))
  have I5 : Inv X (pins ++ [(s.heap.objs.size + 3, seqObj "list" #[] 0), (D, seqObj "list" #[] e1)]) Z H { s with heap := ((h3.update D (Obj.mapSeq λ_ => (#[] : Array Value))).push (seqObj "tuple" vs.toArray 0)).push (seqObj "list" #[] 0), toks := s.toks } := by
   refine (I.kept (t' := s.toks) keep5).pins_of λp hp => ?_
   rcases Yu.mp hp with hp | hp
   ·exact (I.kept (t' := s.toks) keep5).pin p (Yx _ hp)
   ·rcases Ym.mp hp with rfl | hp
    ·exact ⟨by rw [<- hkS]; exact Yn _ rfl, fK.1, fK.2.1, fK.2.2.1, λv z => by cases z⟩
    ·rw [YB.mp hp]
     exact ⟨Yf _ (Yf _ ho1), fD.1, fD.2.1, fD.2.2.1, λv z => by cases z⟩
  show wpAny (model X.prog X.w) X.A.in1.in1 (ksk_rest D f b vs.toArray e1 (.ref ((h3.update D (Obj.mapSeq λ_ => (#[] : Array Value))).push (seqObj "tuple" vs.toArray 0)).objs.size)) _ E { s with heap := ((h3.update D (Obj.mapSeq λ_ => (#[] : Array Value))).push (seqObj "tuple" vs.toArray 0)).push (seqObj "list" #[] 0), toks := s.toks }
  rw [hkS]
  exact rest D _ e1 vs _ _ I5 fD.1 fD fK (λz => absurd (hD.trans z.symm) (by omega)) hv λs' hq => ⟨_, rfl, Yb ⟨_, rfl, hq⟩⟩
def Zrv (I : Inv X pins Z H s) (hl : H l = some (.lst xs)) (hlen : ks.length = xs.length) (h64 : xs.length < 64)
  (ha1 : argsOk "sorted" ⟨[.ref l], kw⟩) (ha2 : ∀ x, argsOk "list.sort" ⟨[.ref x], kw⟩) (ht : ∀ x, Builtin.«list.sort» ⟨[.ref x], kw⟩ = ksk_tree x f b)
  (turn : ∀ (i : Nat) (x : V) (k : Int), xs[i]? = some x -> ks[i]? = some k -> ∀ (pins' : List (Addr × Obj)) (H' : Hp) (s' : Shared) (u : Value), Inv X pins' Z H' s' -> Same H H' -> RelV x u ->
   wpAny (model X.prog X.w) X.A.in1.in1 (call f [u]) (λv s'' => ∃ t H'', v = .int k t /\ Inv X pins' Z H'' s'' /\ Same H' H'') (λ_ _ => False) s')
  (h : ∀ (D : Addr) (H' : Hp) (s' : Shared) (ys : List V), H D = none -> Inv X pins Z H' s' -> Same H H' -> H' D = some (.lst ys) -> ZdJ b ks xs ys -> Q (.ref D) s') :
  wpAny (model X.prog X.w) X.A (call (.builtin "sorted") [.ref l] kw) Q E s := by
 refine Zh5 I hl h64 ha1 ha2 ht λD kS e1 vs s0 P I5 hD fD fK hDK hv hP => ?_
 exact ZkP I5 (λ_ _ q => q) hD fD fK hDK hv hlen h64 turn λH' s' ys I' sH' e' hsk => hP _ (h D H' s' ys hD I' sH' e' hsk)
end
end My
namespace My
open PySem PySem.W PySem.Calls PyProof.Rows
structure KaOrd (lt : Nat -> Nat -> Bool) : Prop where
 refl : ∀ a, lt a a = false
 trans : ∀ a b c, lt b a = false -> lt c b = false -> lt c a = false
 asym : ∀ a b, lt a b = true -> lt b a = false
section
variable {lt : Nat -> Nat -> Bool} {cmp : Nat -> Nat -> (Bool -> Shared -> Prop) -> Shared -> Prop} {I : Shared -> Prop} {N : Nat}
def Zeu (lt : Nat -> Nat -> Bool) (cmp : Nat -> Nat -> (Bool -> Shared -> Prop) -> Shared -> Prop) (I : Shared -> Prop) (N : Nat) : Prop :=
 ∀ i j, i < N -> j < N -> ∀ (C : Bool -> Shared -> Prop) s, I s -> (∀ s', I s' -> C (lt i j) s') -> cmp i j C s
def KaIn (N : Nat) (p : Array Nat) : Prop := p.Perm (List.range N).toArray
theorem KaIn.size {p : Array Nat} (h : KaIn N p) : p.size = N := by
 have := (Array.perm_iff_toList_perm.mp h).length_eq
 simpa using this
def KaIn.blw {p : Array Nat} (h : KaIn N p) {i : Nat} (hi : i < N) : p.getD i 0 < N := by
 have hs := h.size
 have hm : p.getD i 0 ∈ p.toList := by
  rw [Array.getD, dif_pos (hs ▸ hi)]
  exact Array.getElem_mem_toList _
 have := (List.Perm.mem_iff (Array.perm_iff_toList_perm.mp h)).mp hm
 simpa using this
def KaIn.rev {p : Array Nat} (h : KaIn N p) (i j : Nat) : KaIn N (kas_rev p i j) := (mirror_perm p i j _).trans h
def KaIn.bub {p : Array Nat} (h : KaIn N p) (i j : Nat) : KaIn N (bubble p i j) := (bubble_perm p i j).trans h
def Zdn {p q : Array Nat} {i j : Nat} (h : p[i]? = q[j]?) : p.getD i 0 = q.getD j 0 := by
 rw [VD, VD, h]
def ZgD {p : Array Nat} {i j : Nat} (hj : j <= p.size) (k : Nat) : (kas_rev p i j).getD k 0 = if i <= k /\ k < j then p.getD (i + j - 1 - k) 0 else p.getD k 0 := by
 have e := getElem?_mirror_all (i := i) hj k
 unfold kas_rev
 by_cases h1 : i <= k /\ k < j
 ·rw [if_pos h1] at e ⊢; exact Zdn e
 ·rw [if_neg h1] at e ⊢; exact Zdn e
def Zm1 {p : Array Nat} {src d : Nat} (hs : src < p.size) (hd : d <= src) (k : Nat) : (bubble p src d).getD k 0 = if k = src - d then p.getD src 0 else if src - d < k /\ k <= src then p.getD (k - 1) 0 else p.getD k 0 := by
 have e := getElem?_bubble hs d hd k
 by_cases h1 : k = src - d
 ·rw [if_pos h1] at e ⊢; exact Zdn e
 ·rw [if_neg h1] at e ⊢
  by_cases h2 : src - d < k /\ k <= src
  ·rw [if_pos h2] at e ⊢; exact Zdn e
  ·rw [if_neg h2] at e ⊢; exact Zdn e
def JX (lt : Nat -> Nat -> Bool) (p : Array Nat) (k : Nat) : Prop := ∀ i j, i <= j -> j < k -> lt (p.getD j 0) (p.getD i 0) = false
def ZbF (lt : Nat -> Nat -> Bool) (p : Array Nat) (k : Nat) : Prop := ∀ i j, i <= j -> j < k -> lt (p.getD i 0) (p.getD j 0) = false
def Zm5 (O : KaOrd lt) {p : Array Nat} {k : Nat} (h1 : 1 <= k) (h : JX lt p k) (e : lt (p.getD k 0) (p.getD (k - 1) 0) = false) : JX lt p (k + 1) := by
 intro i j hij hj
 by_cases hk : j < k
 ·exact h i j hij hk
 ·have : j = k := by omega
  subst this
  by_cases hi : i = j
  ·rw [hi]; exact O.refl _
  ·exact O.trans _ _ _ (h i (j - 1) (by omega) (by omega)) e
def Zb5 (O : KaOrd lt) {p : Array Nat} {k : Nat} (h1 : 1 <= k) (h : ZbF lt p k) (e : lt (p.getD (k - 1) 0) (p.getD k 0) = false) : ZbF lt p (k + 1) := by
 intro i j hij hj
 by_cases hk : j < k
 ·exact h i j hij hk
 ·have : j = k := by omega
  subst this
  by_cases hi : i = j
  ·rw [hi]; exact O.refl _
  ·exact O.trans _ _ _ e (h i (j - 1) (by omega) (by omega))
def ZjW (O : KaOrd lt) (hc : Zeu lt cmp I N) {p : Array Nat} (hp : KaIn N p) : ∀ (f k : Nat) {Q : Nat -> Shared -> Prop} {s : Shared}, I s -> 1 <= k -> k + f = N -> JX lt p k ->
  (∀ m s', I s' -> k <= m -> m <= N -> JX lt p m -> (m < N -> lt (p.getD m 0) (p.getD (m - 1) 0) = true) -> Q m s') -> (kas_asc p f k).kasWp cmp Q s
 | 0, k, Q, s, hi, h1, hf, hu, q => q k s hi (Yd _) (by omega) hu λh => absurd h (by omega)
 | f + 1, k, Q, s, hi, h1, hf, hu, q => by
  refine hc _ _ (hp.blw (by omega)) (hp.blw (by omega)) _ s hi λs' hi' => ?_
  cases hl : lt (p.getD k 0) (p.getD (k - 1) 0) with
  | true =>
   dsimp only
   rw [if_pos rfl]
   exact q k s' hi' (Yd _) (by omega) hu λ_ => hl
  | false =>
   dsimp only
   rw [if_neg (by simp)]
   exact ZjW O hc hp f (k + 1) hi' (by omega) (by omega) (Zm5 O h1 hu hl) λm s2 i2 g1 g2 => q m s2 i2 (by omega) g2
def ZeP {p : Array Nat} {k a b : Nat} (hb : b <= p.size) (hbk : b <= k) (h : ZbF lt p k) (he : ∀ i j, a <= i -> i < b -> a <= j -> j < b -> lt (p.getD i 0) (p.getD j 0) = false) : ZbF lt (kas_rev p a b) k := by
 intro i j hij hj
 rw [ZgD hb, ZgD hb]
 split
 ·split
  ·exact he _ _ (by omega) (by omega) (by omega) (by omega)
  ·exact h _ _ (by omega) (by omega)
 ·split
  ·exact h _ _ (by omega) (by omega)
  ·exact h _ _ hij hj
def ZeZ (O : KaOrd lt) (hc : Zeu lt cmp I N) : ∀ (f : Nat) (p : Array Nat) (k q : Nat) {Q : Array Nat × Nat × Nat -> Shared -> Prop} {s : Shared}, KaIn N p -> I s -> 1 <= k -> q + 1 <= k -> k + f = N -> ZbF lt p k ->
  (∀ i j, k - (q + 1) <= i -> i < k -> k - (q + 1) <= j -> j < k -> lt (p.getD i 0) (p.getD j 0) = false) ->
  (∀ p' m r s', KaIn N p' -> I s' -> 1 <= m -> m <= N -> r + 1 <= m -> ZbF lt p' m -> (∀ i j, m - (r + 1) <= i -> i < m -> m - (r + 1) <= j -> j < m -> lt (p'.getD i 0) (p'.getD j 0) = false) -> Q (p', m, r) s') ->
  (kas_desc f p k q).kasWp cmp Q s
 | 0, p, k, q, Q, s, hp, hi, h1, hq, hf, hd, he, g => g p k q s hp hi h1 (by omega) hq hd he
 | f + 1, p, k, q, Q, s, hp, hi, h1, hq, hf, hd, he, g => by
  have hs := hp.size
  refine hc _ _ (hp.blw (by omega)) (hp.blw (by omega)) _ s hi λs' hi' => ?_
  cases hl : lt (p.getD k 0) (p.getD (k - 1) 0) with
  | true =>
   dsimp only
   rw [if_pos rfl]
   have hd' : ZbF lt p (k + 1) := Zb5 O h1 hd (O.asym _ _ hl)
   have one : ∀ (p' : Array Nat) i j, k + 1 - (0 + 1) <= i -> i < k + 1 -> k + 1 - (0 + 1) <= j -> j < k + 1 -> lt (p'.getD i 0) (p'.getD j 0) = false := by
    intro p' i j a b c d
    have e1 : i = k := by omega
    have e2 : j = k := by omega
    rw [e1, e2]; exact O.refl _
   split
   ·exact ZeZ O hc f _ (k + 1) 0 (hp.rev _ _) hi' (by omega) (by omega) (by omega) (ZeP (by omega) (by omega) hd' he) (one _) g
   ·exact ZeZ O hc f _ (k + 1) 0 hp hi' (by omega) (by omega) (by omega) hd' (one _) g
  | false =>
   dsimp only
   rw [if_neg (by simp)]
   refine hc _ _ (hp.blw (by omega)) (hp.blw (by omega)) _ s' hi' λs2 hi2 => ?_
   cases hm : lt (p.getD (k - 1) 0) (p.getD k 0) with
   | true =>
    dsimp only
    rw [if_pos rfl]
    exact g p k q s2 hp hi2 h1 (by omega) hq hd he
   | false =>
    dsimp only
    rw [if_neg (by simp)]
    refine ZeZ O hc f p (k + 1) (q + 1) hp hi2 (by omega) (by omega) (by omega) (Zb5 O h1 hd hm) (λi j a b c d => ?_) g
    by_cases e1 : i = k
    ·by_cases e2 : j = k
     ·rw [e1, e2]; exact O.refl _
     ·rw [e1]; exact O.trans _ _ _ (he (k - 1) j (by omega) (by omega) (by omega) (by omega)) hl
    ·by_cases e2 : j = k
     ·rw [e2]; exact O.trans _ _ _ hm (he i (k - 1) (by omega) (by omega) (by omega) (by omega))
     ·exact he i j (by omega) (by omega) (by omega) (by omega)
def ZgS (O : KaOrd lt) (hc : Zeu lt cmp I N) {p : Array Nat} {k : Nat} {Q : Nat × Array Nat -> Shared -> Prop} {s : Shared} (hp : KaIn N p) (hi : I s) (h1 : 1 <= k) (hk : k <= N) (hd : ZbF lt p k)
  (g : ∀ m p' s', KaIn N p' -> I s' -> 1 <= m -> m <= N -> JX lt p' m -> Q (m, p') s') : (kas_tail3 k N p).kasWp cmp Q s := by
 have hs := hp.size
 unfold kas_tail3
 rw [Yad]
 refine ZjW O hc (hp.rev 0 k) (N - k) k hi h1 (by omega) (λi j a b => ?_) λm s' i' a b c _ => g m _ s' (hp.rev _ _) i' (by omega) b c
 rw [ZgD (by omega), ZgD (by omega), if_pos ⟨by omega, by omega⟩, if_pos ⟨by omega, by omega⟩]
 exact hd _ _ (by omega) (by omega)
def ZdA (O : KaOrd lt) (hc : Zeu lt cmp I N) {p : Array Nat} {k : Nat} {Q : Nat × Array Nat -> Shared -> Prop} {s : Shared} (hp : KaIn N p) (hi : I s) (h1 : 1 <= k) (hk : k + 1 <= N) (hd : ZbF lt p (k + 1))
  (g : ∀ m p' s', KaIn N p' -> I s' -> 1 <= m -> m <= N -> JX lt p' m -> Q (m, p') s') : (kas_descPart k N p).kasWp cmp Q s := by
 unfold kas_descPart
 rw [Yad]
 refine ZeZ O hc (N - (k + 1)) p (k + 1) 0 hp hi (by omega) (by omega) (by omega) hd (λi j a b c d => ?_) λp' m r s' hp' i' g1 g2 g3 g4 g5 => ?_
 ·have e1 : i = k := by omega
  have e2 : j = k := by omega
  rw [e1, e2]; exact O.refl _
 ·have hs := hp'.size
  show KasT.kasWp cmp (if r > 0 then kas_tail3 m N (kas_rev p' (m - (r + 1)) m) else kas_tail3 m N p') Q s'
  split
  ·exact ZgS O hc (hp'.rev _ _) i' g1 g2 (ZeP (by omega) (Yd _) g4 g5) g
  ·exact ZgS O hc hp' i' g1 g2 g4 g
def Zlf (O : KaOrd lt) (hc : Zeu lt cmp I N) {p : Array Nat} {Q : Nat × Array Nat -> Shared -> Prop} {s : Shared} (hN : 1 <= N) (hp : KaIn N p) (hi : I s)
  (g : ∀ m p' s', KaIn N p' -> I s' -> 1 <= m -> m <= N -> JX lt p' m -> Q (m, p') s') : (kas_count N p).kasWp cmp Q s := by
 have hs := hp.size
 unfold kas_count
 rw [Yad]
 refine ZjW O hc hp (N - 1) 1 hi (Yd _) (by omega) (λi j a b => ?_) λm s' i' g1 g2 g3 g4 => ?_
 ·have e1 : i = 0 := by omega
  have e2 : j = 0 := by omega
  rw [e1, e2]; exact O.refl _
 ·by_cases e : m = N
  ·rw [if_pos (by simp [e])]
   exact g m p s' hp i' g1 g2 g3
  ·rw [if_neg (by simp [e])]
   have hl := g4 (by omega)
   split
   ·refine hc _ _ (hp.blw (by omega)) (hp.blw (by omega)) _ s' i' λs2 i2 => ?_
    cases hm : lt (p.getD 0 0) (p.getD (m - 1) 0) with
    | true =>
     dsimp only
     rw [if_pos rfl]
     exact g m p s2 hp i2 g1 g2 g3
    | false =>
     dsimp only
     rw [if_neg (by simp)]
     have heq : ∀ i j, i < m -> j < m -> lt (p.getD i 0) (p.getD j 0) = false := λi j a b =>
      O.trans _ _ _ (g3 j (m - 1) (by omega) (by omega)) (O.trans _ _ _ hm (g3 0 i (by omega) a))
     have hd : ZbF lt p (m + 1) := Zb5 O g1 (λi j _ b => heq i j (by omega) b) (O.asym _ _ hl)
     exact ZdA O hc (hp.rev _ _) i2 g1 (by omega) (ZeP (by omega) (by omega) hd λi j _ b _ d => heq i j b d) g
   ·have e1 : m = 1 := by omega
    subst e1
    refine ZdA O hc hp i' g1 (by omega) (Zb5 O g1 (λi j a b => ?_) (O.asym _ _ hl)) g
    have e1 : i = 0 := by omega
    have e2 : j = 0 := by omega
    rw [e1, e2]; exact O.refl _
def Zej (O : KaOrd lt) (hc : Zeu lt cmp I N) {p : Array Nat} {k : Nat} (hp : KaIn N p) (hk : k < N) (hu : JX lt p k) : ∀ (f l r : Nat) {Q : Nat -> Shared -> Prop} {s : Shared}, I s -> l <= r -> r <= k -> r - l <= f ->
  (∀ i, i < l -> lt (p.getD k 0) (p.getD i 0) = false) -> (∀ i, r <= i -> i < k -> lt (p.getD k 0) (p.getD i 0) = true) ->
  (∀ m s', I s' -> m <= k -> (∀ i, i < m -> lt (p.getD k 0) (p.getD i 0) = false) -> (∀ i, m <= i -> i < k -> lt (p.getD k 0) (p.getD i 0) = true) -> Q m s') -> (kas_place p k f l r).kasWp cmp Q s
 | 0, l, r, Q, s, hi, h1, h2, hf, a, b, g => g l s hi (by omega) a λi x y => b i (by omega) y
 | f + 1, l, r, Q, s, hi, h1, h2, hf, a, b, g => by
  unfold kas_place
  by_cases e : l >= r
  ·rw [if_pos e]
   exact g l s hi (by omega) a λi x y => b i (by omega) y
  ·rw [if_neg e]
   refine hc _ _ (hp.blw hk) (hp.blw (by omega)) _ s hi λs' i' => ?_
   cases hl : lt (p.getD k 0) (p.getD ((l + r) / 2) 0) with
   | true =>
    dsimp only
    rw [if_pos rfl]
    refine Zej O hc hp hk hu f l ((l + r) / 2) i' (by omega) (by omega) (by omega) a (λi x y => ?_) g
    cases hx : lt (p.getD k 0) (p.getD i 0) with
    | true => rfl
    | false => exact absurd (O.trans _ _ _ (hu _ _ x y) hx) (by rw [hl]; simp)
   | false =>
    dsimp only
    rw [if_neg (by simp)]
    exact Zej O hc hp hk hu f ((l + r) / 2 + 1) r i' (by omega) h2 (by omega) (λi x => O.trans _ _ _ (hu i _ (by omega) (by omega)) hl) b g
def ZmT (O : KaOrd lt) (hc : Zeu lt cmp I N) : ∀ (f : Nat) (p : Array Nat) (k : Nat) {Q : Array Nat -> Shared -> Prop} {s : Shared}, KaIn N p -> I s -> k + f = N -> JX lt p k ->
  (∀ p' s', KaIn N p' -> I s' -> JX lt p' N -> Q p' s') -> (kas_bin f p k).kasWp cmp Q s
 | 0, p, k, Q, s, hp, hi, hf, hu, g => g p s hp hi (by rw [show N = k by omega]; exact hu)
 | f + 1, p, k, Q, s, hp, hi, hf, hu, g => by
  have hs := hp.size
  unfold kas_bin
  rw [Yad]
  refine Zej O hc hp (by omega) hu k 0 k hi (by omega) (Yd _) (by omega) (λi x => absurd x (by omega)) (λi x y => absurd x (by omega)) λm s' i' g1 g2 g3 => ?_
  refine ZmT O hc f _ (k + 1) (hp.bub _ _) i' (by omega) (λi j a b => ?_) g
  have ek : k - (k - m) = m := by omega
  rw [Zm1 (by omega) (by omega), Zm1 (by omega) (by omega), ek]
  repeat' split
  all_goals first
   | exact O.refl _
   | exact hu _ _ (by omega) (by omega)
   | exact g2 _ (by omega)
   | exact O.asym _ _ (g3 _ (by omega) (by omega))
   | (exfalso; omega)
def Znk (O : KaOrd lt) (hc : Zeu lt cmp I N) {Q : Array Nat -> Shared -> Prop} {s : Shared} (hN : 1 <= N) (hi : I s) (g : ∀ p s', KaIn N p -> I s' -> JX lt p N -> Q p s') : (kas_sort N).kasWp cmp Q s := by
 unfold kas_sort
 rw [Yad]
 refine Zlf O hc hN (Array.Perm.refl _) hi λm p' s' hp' i' g1 g2 g3 => ?_
 show KasT.kasWp cmp (if m < N then kas_bin (N - max m 1) p' (max m 1) else .ret p') Q s'
 have e : max m 1 = m := by omega
 rw [e]
 split
 ·exact ZmT O hc (N - m) p' m hp' i' (by omega) g3 g
 ·exact g p' s' hp' i' (by rw [show N = m by omega]; exact g3)
end
end My
namespace My
open PySem PySem.SeqAt PySem.MeetsSeq PySem.MeetsSeq2 PySem.MeetsSeq3 PyProof.Rows
open AutoSeq1 (wpAny_loadPart')
end My
namespace My
open PySem PySem.Spec L2
open PyProof.Rows hiding St
open PySem.W (kat_end kas_ask KatFin KasFin katRev)
def ZjP {xs : List V} {vs : List Value} (h : Vals xs vs) (i : Nat) : RelV (xs.getD i .non) (vs.getD i Value.none) := by
 induction h generalizing i with
 | nil => exact rfl
 | cons h1 _ ih =>
  cases i with
  | zero => exact h1
  | succ i => exact ih i
def ZgM {xs : List V} {vs : List Value} (h : Vals xs vs) : ∀ l : List Nat, Vals (l.map λi => xs.getD i .non) (l.map λi => vs.getD i Value.none)
 | [] => .nil
 | i :: l => .cons (ZjP h i) (ZgM h l)
section
variable {X : Cx} {pins : List (Addr × Obj)} {Z : St} {H : Hp} {s : Shared} {l : Addr} {xs : List V} {f : Value} {kw : List (Str × Value)} {E : Value -> Shared -> Prop} {Q : Value -> Shared -> Prop} {KeyIs : Nat -> Hp -> Value -> Prop} {lt : Nat -> Nat -> Bool} {κ : SortKind}
end
end My
namespace My
open PySem PySem.Spec L2
open PyProof.Rows hiding St
open PySem.W (kat_lt kat_cons kat_nil kat_yes kat_no kat_one kat_kind KatTups KatLex KatGo)
structure Sto {α : Type} (r : α -> α -> Bool) : Prop where
 irr : ∀ a, r a a = false
 tr : ∀ a b c, r a b = true -> r b c = true -> r a c = true
 tri : ∀ a b, r a b = false -> r b a = false -> a = b
def Sto.asym {α : Type} {r : α -> α -> Bool} (h : Sto r) {a b : α} (e : r a b = true) : r b a = false := by
 cases q : r b a with
 | false => rfl
 | true => have := h.tr _ _ _ e q; rw [h.irr] at this; cases this
def Sto.ka {α : Type} {r : α -> α -> Bool} (h : Sto r) (f : Nat -> α) : KaOrd λi j => r (f i) (f j) where
 refl a := h.irr _
 trans a b c h1 h2 := by
  cases q : r (f c) (f a) with
  | false => rfl
  | true =>
   exfalso
   cases q2 : r (f b) (f c) with
   | true => have := h.tr _ _ _ q2 q; rw [h1] at this; cases this
   | false =>
    have e := h.tri _ _ q2 h2
    rw [e, q] at h1
    cases h1
 asym a b e := h.asym e
def sto_str : Sto λx y : Str => decide (x.cps.toList < y.cps.toList) where
 irr a := Y5 (List.lt_irrefl _)
 tr a b c h1 h2 := Y8 (List.lt_trans (VL h1) (VL h2))
 tri a b h1 h2 := by
  have e : a.cps.toList = b.cps.toList := List.le_antisymm (Yas h2) (Yas h1)
  cases a; cases b
  simpa using e
section
variable {X : Cx} {pins : List (Addr × Obj)} {Z : St} {H : Hp} {s : Shared} {E : Value -> Shared -> Prop}
end
end My
namespace My
open PySem PySem.Spec L2
open PyProof.Rows hiding St
def ZrK (q : V -> Hp -> Prop) : List V -> Hp -> Prop
 | [v], H => q v H
 | _, _ => False
def Zn6 {q : V -> Hp -> Prop} {vs : List V} {H : Hp} (h : ZrK q vs H) : ∃ v, vs = [v] /\ q v H := by
 match vs, h with
 | [v], h => exact ⟨v, rfl, h⟩
section
variable {X : Cx} {p pos kp : Pos} {e ek : Expr} {te tk : TE} {k : Nat}
end
section
variable {X : Cx} {j k : Nat} {x y : Str} {sp : Sp} {p : Pos}
def Zql {pins : List (Addr × Obj)} {Z : L2.St} {H : Hp} {s : Shared} {Q : VK} {us : List Value} {f : Addr} (I : Inv X pins Z H s) (h : codeAny (model X.prog X.w) X.A.in1.in1 (.call (.ref f) ⟨us, []⟩) (CR Zx X.stack X.prog X.w H s Q E0) s) :
  wpAny (model X.prog X.w) X.A.in1.in1 (call (.ref f) us) (EP X pins Z Q) (λ_ _ => False) s := by
 refine Vs (YN h λr s' hq => ?_)
 cases r with
 | error e => exact hq
 | ok fl =>
  cases fl with
  | ret u => exact I.after hq
  | next => exact False.elim hq
  | brk => exact False.elim hq
  | cont => exact False.elim hq
def Zr7 {P : Program} {w : World} {K : PySem.W.Frag} {mg : Str -> Option Value} {base : Heap} {x qual : Str} {st : Stmt} {f c : Addr} {fd : FuncData} {N ps : List Str} {k : Nat} {sp : Sp} (F : Fun K x qual st f fd) (hc : fd.code = .ref c) (S : FnScope N ps (Zb st)) (len : ∀ vs H Q E, sp vs H Q E -> vs.length = ps.length)
  (hbody : ∀ (A : Around) (outer : List Env) (s : Shared) (H : Hp) (vs : List V) (Q : VK) (E : XK), Room k (A.deeper (envOfC qual (Zb st) s.heap.objs.size f (.ref c))) -> sp vs H Q E ->
   ∃ t, QB (JY Zx P w K mg base N qual (Zb st) f (.ref c) A outer s H E).nox (Zq st) t /\ t { nx := λ_ H' => Q .non H', rt := Q } (Zu N vs) H) : FnOk P w K mg base Zx (k + 1) f fd ps sp := by
 obtain ⟨oc, od, kV, doc, pm, an, cdv, ct, osl, rfl, lk, hcd⟩ := F.ex
 have hc : cdv = .ref c := hc
 subst hc
 refine Zlq lk hcd S len λA outer s H vs Q E hr hsp => ?_
 obtain ⟨t, h, q⟩ := hbody A outer s H vs Q E hr hsp
 exact ⟨t, h.h.nox, q⟩
end
end My
namespace L2
open PySem PySem.Spec PyProof.Rows PySem.W
def Zkg {l : PySem.W.OpenLaw} {n k : Nat} {q : Program} {loose : List Str} {XP : (Str -> Option Value) -> Heap -> Prop} {YP : World -> Heap -> Prop} {d : DefRec} {K : Params -> PySem.W.Frag} {CX : CXT} {sp : PySem.W.Frag -> Sp} {x : Str} (T : Addr -> Option Str)
  (hn : l.most = some n) (hn2 : n <= sizeLine) (hdf : d.params.defaults = []) (hr : Room k callerA)
  (hY : ∀ (w : World) (h : Heap), YP w h -> (K w.params).In h)
  (hT : ∀ (w : World) (h : Heap), YP w h -> ∀ b q, T b = some q -> (∃ c, CodeHd h c b) /\ h.get? b = some (tabObj #[])) (hKT : ∀ (w : World) b q, T b = some q -> (K w.params).lookup b = none)
  (F : ∀ (w : World) (mg : Str -> Option Value) (fa : Addr) (h : Heap), (K w.params).In h -> h.Ns mainGlobals mg -> mg d.name = some (.ref fa) ->
   ∃ fd : FuncData, (∀ (s : Shared) (u : Value), BindsTo s fd ⟨[u], []⟩ [(x, u)]) /\
    ∀ base : Heap, (K w.params).In base -> base.Ns mainGlobals mg -> Zde mg base -> FnOk l.prog w (K w.params) mg base CX k fa fd [x] (sp (K w.params)))
  (hsp : ∀ (K : PySem.W.Frag) (H : Hp) (a : Addr) (ns : List Int), ns.length <= n -> (∀ b q, T b = some q -> ZfG H b q) -> SqL K H a (ns.map V.int) -> sp K [.ref a] H (λv _ => v = .bl true) λ_ _ _ => False)
  (hCX : ∀ (H : Hp) (s : Shared) (e : Value) (s' : Shared), CX [] H s (λ_ _ _ => False) e s' -> False) :
  PySem.W.WalkO q loose XP YP l.row.toRowW d [] (λf vs => PySem.call f vs) := by
 refine Att.attach_call hn hdf λw s₀ s₁ mg mb fa o pm cd doc a vs ns G Y ho hd hcd hmg hobj hints hlen hg => ?_
 have KX := hY w _ Y
 obtain ⟨fd, hb, hF⟩ := F w mg fa _ KX G.T.g hmg
 exact ZjK (T := T) KX G.T.g G.T.b G.T.builtins G.T.nolimit hg hobj hints (Yh hlen hn2) hr (hT w _ Y) (hKT w) (by obtain ⟨bm, o, b1, b2, b3, b4, b5, b6⟩ := G.T.bmain; exact ⟨bm, o, b1, b2, b3, b4, b5, b6⟩) hF hb (λH hO hS => hsp (K w.params) H a ns hlen hO hS) λH e s' => hCX H s₁ e s'
end L2
namespace My
open PySem PySem.Spec L2
open PyProof.Rows hiding St
instance (a b : Str) : Decidable (leS a b) := inferInstanceAs (Decidable (a.cps.toList <= b.cps.toList))
def Zmt (X : Cx) (Z : L2.St) (H : Hp) (ky : V -> Int) (xs : List V) (fv : V) : Prop := ∃ f, fv = .ref f /\ ∀ (pins : List (Addr × Obj)) (H' : Hp) (s' : Shared) (x : V) (u : Value), x ∈ xs -> Inv X pins Z H' s' -> Same H H' -> RelV x u ->
 wpAny (model X.prog X.w) X.A.in1.in1 (call (.ref f) [u]) (λv s'' => ∃ t H'', v = .int (ky x) t /\ Inv X pins Z H'' s'' /\ Same H' H'') (λ_ _ => False) s'
def Znn (X : Cx) (Z : L2.St) (Q : VK) (v : V) : V -> Hp -> Prop := λfv H2 => ∃ a xs ky, v = .ref a /\ H2 a = some (.lst xs) /\ xs.length < 64 /\ Zmt X Z H2 ky xs fv /\ ∀ D H3 ys, H2 D = none -> Same H2 H3 -> H3 D = some (.lst ys) -> ZdJ true (xs.map ky) xs ys -> Q (.ref D) H3
def ZmA (X : Cx) (te tk : TE) : TE := λZ H Q => te Z H λv H1 => tk Z H1 (Znn X Z Q v)
def ZrJ (q : V -> Hp -> Prop) : List V -> Hp -> Prop
 | [v, .bl true], H => q v H
 | _, _ => False
def ZoE {q : V -> Hp -> Prop} {vs : List V} {H : Hp} (h : ZrJ q vs H) : ∃ v, vs = [v, .bl true] /\ q v H := by
 match vs, h with
 | [v, .bl true], h => exact ⟨v, rfl, h⟩
section
variable {X : Cx} {p pos kp kp2 : Pos} {e ek eb : Expr} {te tk : TE}
def Zla (hg : Gl X "sorted") (hm : X.mg "sorted" = none) (ha : PE X e te) (hk : PE X ek tk) (hb : PE X eb (tC (.bl true))) (hs : starEach [e] X.env = [(false, eval e X.env)] := by rfl)
  (hks : (backToKw pos (keywordEach [⟨some "key", ek, kp⟩, ⟨some "reverse", eb, kp2⟩] X.env)).filterMap (·.1) = [Str.ofString "key", Str.ofString "reverse"] := by rfl) :
  PE X (.Call (.Name "sorted" p) [e] [⟨some "key", ek, kp⟩, ⟨some "reverse", eb, kp2⟩] pos) (ZmA X te tk) := by
 intro pins s Z H Q I h
 refine Y2 (Jp I hg hm (show bootBuiltins "sorted" = some (.builtin "sorted") from rfl) ?_ (by decide) (by decide))
 refine callWith_kw ?_ (by rw [hs]; rfl) (by rw [hs]; rfl)
 refine ZR (ZjE ha ZmK hs pos pins s Z H (ZrK λv H1 => tk Z H1 (Znn X Z Q v)) I h) ?_
 rintro us s1 ⟨vs, H1, I1, r1, q⟩
 obtain ⟨v, rfl, q⟩ := Zn6 q
 refine ZR (ZiE (kws := [⟨some "reverse", eb, kp2⟩]) hk (ZiE hb Zpw) pos pins s1 Z H1 (ZrJ (Znn X Z Q v)) I1 q) ?_
 rintro ws s2 ⟨zs, H2, I2, r2, q2⟩
 obtain ⟨fv, rfl, q2⟩ := ZoE q2
 obtain ⟨a, xs, ky, rfl, hl, h64, ⟨f, rfl, hf⟩, q3⟩ := q2
 cases r1 with
 | cons r1 r1' =>
  cases r1'
  cases r1
  cases r2 with
  | cons r2 r2' =>
   cases r2' with
   | cons r3 r3' =>
    cases r3'
    cases r2
    cases r3
    rw [hks]
    refine Zrv (b := true) (f := .ref f) (ks := xs.map ky) I2 hl (Yg ..) h64 (ksk_s2 _ _ _) (λx => ksk_l2 _ _ _) (λx => ksk_t2 _ _ _) (λi x k hx hki pins' H' s' u I' sm r => ?_) λD H' s' ys hD I' sm e' hs => ⟨.ref D, H', I', rfl, q3 D H' ys hD sm e' hs⟩
    rw [Yi, hx] at hki
    cases hki
    exact hf pins' H' s' x u (Yq hx) I' sm r
def ZkW (X : Cx) (P : Addr) (q : Str) (i : Nat) (t : TE) : TE := λZ H Q => ZfG H P q /\ ∃ w, Z[i]? = some (some w) /\ ∀ fv H2, Same H H2 -> (∀ (xs : List V) (ky : V -> Int), (∀ x ∈ xs, ∀ (H' : Hp) (k : VK), Same H2 H' -> (∀ H'', Same H' H'' -> k (.int (ky x)) H'') -> t [some x, some w] H' k) -> Zmt X Z H2 ky xs fv) -> Q fv H2
theorem ZhK {params : Arguments} {body : Expr} {scope : Scope} {c P cz : Addr} {q y z : Str} {t : TE} {i k : Nat} (hdef : defaultsOf params X.env = ([], [])) (hcl : closureFor scope X.env = pure [(z, cz)]) (hcz : X.env.cells.lookup z = some cz) (hcode : X.env.code = .ref c)
  (hC : codeHdIn X.K c P = true) (hB : Zde X.mg X.base) (hq : X.env.qual ++ "<lambda>" = q) (hr : Room (k + 3) X.A) (S : LamScope [y] [z] scope [(z, cz)]) (hN : X.N[i]? = some z) (hv : Vis X.env.scope z) (hloc : X.env.scope.names.lookup z ≠ some .local)
  (hbind : ∀ (pm ctv u : Value) (c' : Addr), bindArgs (PySem.W.kla_fn "<lambda>" q params body scope [(z, cz)] pm (.ref c') ctv) ⟨[u], []⟩ = pure [(y, u)])
  (hbody : ∀ (f c' : Addr) (s : Shared) (H : Hp), QE (Zmd Zx X.prog X.w X.K X.mg X.base [y, z] q scope f c' [(z, cz)] X.A.in1.in1 X.stack s H E0) body t) :
  PE X (.Lambda params body scope pos) (ZkW X P q i t) := by
 intro pins s Z H Q I ⟨⟨tk, hP⟩, w, hw, h⟩
 have hb : X.base.BuiltinsAt X.mg P := by
  obtain ⟨bm, o, b1, b2, b3, b4, b5, b6⟩ := hB
  refine ⟨bm, o, b1, b2, λz => ?_, λz => ?_, b3, b4, b5, b6⟩
  ·obtain ⟨o', es, ep, e, d, _⟩ := I.ok.mod.glob
   rw [z, e] at b3
   cases b3
   rw [d] at b6
   cases b6
  ·have := (I.bs _ _ b3).2
   rw [z, hP] at this
   cases this
 refine Zp7 hdef hcl hcode (codeHd_of_K I.ok.mod.kin hC) hb hq pins s Z H Q I ⟨tk, hP, λf c' oc pm ctv vs t' H2 hf hf2 hc2 hd hv' sm => h _ H2 sm λxs ky hx => ⟨f, rfl, λpins' H' s' x u hxm I' sm' r => ?_⟩⟩
 have ho := (I'.hok f _ (sm' _ _ hf2)).1
 have hoc := (I'.hok c' _ (sm' _ _ hc2)).1
 refine ZR (Zql (Q := λv H'' => v = .int (ky x) /\ Same H' H'') I' (ZoU (k := k) (ps := [y]) (fs := [z]) (ws := [w]) (vs := [x]) (us := [u]) hr.in1.in1 ?_ ho ⟨c', oc, vs, t', rfl, hoc, hd, hv'⟩ (hbind _ _ _ _) rfl (.cons r .nil) S ?_ (hbody f c' s' H').h (hx x hxm H' _ sm' λH'' sm2 => ⟨rfl, sm2⟩))) ?_
 ·exact ⟨I'.ok.frames, I'.ok.mod, I'.bs, Yh I'.ok.bsz I'.sz, I'.stack, I'.stkFree, I'.hok, I'.bare⟩
 ·have hcell : ∀ x c0, List.lookup x [(z, cz)] = some c0 -> x = z /\ c0 = cz := λx c0 e => by
   simp only [List.lookup] at e
   split at e
   ·rename_i hh
    cases e
    exact ⟨by simpa using hh, rfl⟩
   ·cases e
  refine ⟨rfl, λj x v e1 e2 => ?_, λx c0 e => ?_, λx x' c0 e e' => by rw [(hcell _ _ e).1, (hcell _ _ e').1]⟩
  ·match j with
   | 0 =>
    cases e1
    cases e2
    obtain ⟨m, _, hl⟩ := I'.loc
    obtain ⟨u', ru, lk⟩ := hl i z w hN hw hv
    rcases lk with ⟨hl', _⟩ | ⟨_, c0, hc0, hce⟩
    ·exact absurd hl' hloc
    ·have : c0 = cz := YR (hc0.symm.trans hcz)
     subst this
     exact ⟨c0, u', by simp, ru, hce⟩
   | j + 1 => cases e1
  ·obtain ⟨rfl, rfl⟩ := hcell x c0 e
   exact ⟨I'.cell _ _ hcz, I'.freeC _ _ hcz⟩
 ·rintro v s'' ⟨w', H'', I'', r'', rfl, sm2⟩
  obtain ⟨t2, rfl⟩ := r''
  exact ⟨t2, H'', rfl, I'', sm2⟩
theorem Zon (hg : Gl X "sorted") (hm : X.mg "sorted" = none) (ha : QE X e te) (hk : QE X ek tk) (hb : QE X eb (tC (.bl true))) (hp : Zn e = true := by rfl) : QE X (.Call (.Name "sorted" p) [e] [⟨some "key", ek, kp⟩, ⟨some "reverse", eb, kp2⟩] pos) (ZmA X te tk) :=
 ⟨Zla hg hm ha.h hk.h hb.h (Zi hp) rfl⟩
end
section
variable {prog : Program} {w : World} {A : Around} {E : Value -> Shared -> Prop} {s : Shared} {κ : Type} [DecidableEq κ] {knd : KeyKind prog w κ}
end
section
variable {prog : Program} {w : World} {A : Around} {E : Value -> Shared -> Prop} {s : Shared}
end
section
variable {X : Cx} {l m : Expr} {ta : TA} {p pos pos' : Pos} {es : List Expr}
end
section
variable {prog : Program} {w : World} {A : Around} {E : Value -> Shared -> Prop} {s : Shared} {κ : Type} [DecidableEq κ] {knd : KeyKind prog w κ}
def ZkA (mask finger moves : Nat) (led plain : Bool) : SetTable.laid mask finger moves led plain #[] = some ({ mask, place := #[], dummies := #[], finger, led, moves, plain }, #[]) := by
 unfold SetTable.laid SetTable.layClean
 simp
 intro j hj
 simp [hj]
def Zl7 : ∀ m < 65, SetTable.sizeAbove m <= 128 := by decide +kernel
def ZnC {a : Addr} {o : Obj} {ep : Nat} {t : SetTable} {n : Nat} {Q : Unit -> Shared -> Prop} (ho : s.heap.get? a = some o) (hex : o.ExactSet) (hd : o.data = .set #[] ep t) (hf : t.fits 0 = true) (hp : t.place = #[]) (hn : n <= 30)
  (q : ∀ h', Heap.SameBut a s.heap h' -> h'.SetOf knd a (λ_ => false) 0 -> Q () { s with heap := h' }) : wpAny (model prog w) A (setRoomFor a n) Q E s := by
 have h0 : s.heap.SetOf knd a (λ_ => false) 0 := ⟨o, #[], ep, t, ho, hex, hd, λe he => by simp at he, λk => by simp, by decide, hf, rfl⟩
 unfold setRoomFor
 refine Ya (Vo ho hd hf ?_)
 dsimp only
 cases hr : t.roomFor n with
 | none => exact Yb (q s.heap (Heap.SameBut.refl a s.heap) h0)
 | some wanted =>
  have hw : wanted < 65 := by
   unfold SetTable.roomFor at hr
   split at hr
   ·cases hr
    rw [hp]
    show (0 + n) * 2 < 65
    omega
   ·cases hr
  have hsz := Zl7 wanted hw
  unfold setRelay
  refine Ya (Vo ho hd hf ?_)
  dsimp only
  rw [if_neg (by rw [YJ]; omega)]
  have er : t.relaid (Array.map (λx : Int × Value => x.1) #[]) wanted = some ({ mask := SetTable.sizeAbove wanted - 1, place := #[], dummies := #[], finger := t.finger, led := t.led, moves := t.movedTo (SetTable.sizeAbove wanted - 1), plain := t.plain }, #[]) := by
   unfold SetTable.relaid
   rw [Array.map_empty]
   exact ZkA _ _ _ _ _
  rw [er]
  refine Ya (wpAny_of_eq (a := ((#[] : Array (Int × Value)), ({ mask := SetTable.sizeAbove wanted - 1, place := #[], dummies := #[], finger := t.finger, led := t.led, moves := t.movedTo (SetTable.sizeAbove wanted - 1), plain := t.plain } : SetTable))) rfl ?_)
  dsimp only
  refine wpAny_storeSet_of ho hd (q _ (Heap.SameBut.update _ _ _) ?_) (by simp)
  exact (SetOf_store (knd := knd) ho hex hd (es' := #[]) (λe he => by simp at he) (λk => by simp) (by decide) (by simp [SetTable.fits, SetTable.fill])).2
def Zol {d S : Addr} {es : Array DictEntry} {ep : Nat} {od : Obj} {kvs : List (κ × Value)} {nm : String} {Q : Unit -> Shared -> Prop} (hne : d ≠ S) (hod : s.heap.get? d = some od) (hdd : od.data = .dict es ep) (hko : KeysOf knd es) (hpo : Pairs knd es.toList kvs) (hno : (kvs.map (·.1)).Nodup)
    (hsc : ∀ e ∈ es.toList, e.key.scannable = true) (hn : kvs.length <= 30) (h0 : s.heap.SetOf knd S (λ_ => false) 0) (q : ∀ h', Heap.SameBut S s.heap h' -> h'.SetOf knd S (λk => decide (k ∈ kvs.map (·.1))) kvs.length -> Q () { s with heap := h' }) :
    wpAny (model prog w) A (do
          let __do_lift <- dictEntries d
          forIn [:__do_lift.size] PUnit.unit λi __s => do
              let __do_lift <- dictEntries d
              match __do_lift[i]? with
                | some e => do
                  let _ <- holding [e.key] (setAddHashed S e.key e.hash)
                  let __do_lift <- dictEpoch d
                  if (__do_lift != ep) = true then do
                      unsupported nm
                      pure (ForInStep.yield PUnit.unit)
                    else pure (ForInStep.yield PUnit.unit)
                | x => do
                  unsupported "internal:set-from-dict"
                  pure (ForInStep.yield PUnit.unit)
          pure ()) Q E s := by
  have hlen : kvs.length = es.size := by rw [<- hpo.length]; simp
  refine Ya (wpAny_dictEntries hod hdd (Ya ?_))
  rw [Std.Legacy.Range.forIn_eq_forIn_range']
  simp only [Std.Legacy.Range.size, Nat.sub_zero, Nat.add_sub_cancel, Nat.div_one]
  refine Yab _ (λrest _ s' => ∃ h' i, s' = { s with heap := h' } /\ rest = List.range' i (es.size - i) /\ i <= es.size /\ h'.SetOf knd S (λk => decide (k ∈ (kvs.take i).map (·.1))) i /\ h'.get? d = some od /\ Heap.SameBut S s.heap h') _ ?_ ?_ _ _
    ⟨s.heap, 0, rfl, by simp, Nat.zero_le _, by simpa using h0, hod, Heap.SameBut.refl _ _⟩
  · rintro x rest b s' ⟨h', i, rfl, hr, hi, hS, hod', sb⟩
    have hlt : i < es.size := Nat.lt_of_le_of_ne hi λz => by rw [z, Nat.sub_self] at hr; cases hr
    obtain ⟨rfl, hrest⟩ : x = i /\ rest = List.range' (i + 1) (es.size - (i + 1)) := by
      rw [show es.size - i = (es.size - (i + 1)) + 1 by omega, List.range'_succ] at hr
      injection hr with a1 a2
      exact ⟨a1, a2⟩
    refine Ya (wpAny_dictEntries hod' hdd ?_)
    rw [Vb hlt]
    have hltk : x < kvs.length := by omega
    have hkv := Yc hltk
    obtain ⟨hkey, _⟩ := hpo.get? (e := es[x]) (k := kvs[x].1) (v := kvs[x].2) (by simp [hlt]) hkv
    obtain ⟨k', hk', hh⟩ := hko es[x] (Array.getElem_mem hlt)
    obtain rfl : k' = kvs[x].1 := knd.inj _ _ _ hk' hkey
    have hnew : kvs[x].1 ∉ (kvs.take x).map (·.1) := λhm => by
      have h1 : ((kvs.take (x + 1)).map (·.1)).Nodup := hno.sublist ((Vw _ _).map _)
      rw [Yw, hkv, YW] at h1
      exact (List.nodup_append.mp h1).2.2 _ hm _ (by simp) rfl
    show wpAny _ _ (holding [es[x].key] (setAddHashed S es[x].key es[x].hash) >>= λ_ => _) _ _ _
    rw [hh]
    refine wpAny_bind (wpAny_holding (wpAny_setAddHashed_of hkey (hsc _ (by simp)) hS (by have : scanBound = 4096 := rfl; omega) λh2 sb2 hS2 => ?_))
    have hod2 : h2.get? d = some od := (sb2.2 d hne).trans hod'
    refine Ya (wpAny_dictEpoch hod2 hdd ?_)
    rw [if_neg (by simp)]
    refine Yb ⟨h2, x + 1, rfl, hrest, hlt, ?_, hod2, sb.trans sb2⟩
    simp only [hnew, decide_false, if_false, Bool.false_eq_true] at hS2
    rw [Yw, hkv]
    have e : (λk' => decide (k' ∈ (kvs.take x ++ (some kvs[x]).toList).map (·.1))) = λk' => (decide (k' ∈ (kvs.take x).map (·.1)) || decide (k' = kvs[x].1)) := by
      funext k'
      rw [YW, VQ]
      simp only [Option.toList_some, List.map_cons, List.map_nil, List.mem_append, List.mem_singleton, Bool.or_eq_true, decide_eq_true_eq]
    rw [e]
    exact hS2
  · rintro b s' ⟨h', i, rfl, hr, hi, hS, hod', sb⟩
    have hin : i = es.size := Nat.le_antisymm hi (Nat.le_of_not_lt λc => by rw [show es.size - i = (es.size - (i + 1)) + 1 by omega, List.range'_succ] at hr; cases hr)
    rw [hin, <- hlen, YE] at hS
    exact Yb (q h' sb hS)
set_option maxHeartbeats 3200000 in
theorem Zgp {d : Addr} {kvs : List (κ × Value)} {Q : Value -> Shared -> Prop} (hd0 : (d == sysModules) = false) (hm : s.heap.DictOf knd d kvs) (hsc : ∀ k u, knd.is k u = true -> u.scannable = true) (hn : kvs.length <= 30)
  (h : ∀ (h' : Heap), h'.SetOf knd s.heap.objs.size (λk => decide (k ∈ kvs.map (·.1))) kvs.length -> (∀ b o, s.heap.get? b = some o -> h'.get? b = some o) -> Q (.ref s.heap.objs.size) { s with heap := h' }) :
  wpAny (model prog w) A (call (.type "set") [.ref d]) Q E s := by
 obtain ⟨c, tl, hmro⟩ := F.called_set.mro
 have hmade := F.called_set.made
 have hsub := F.called_set.sub
 refine Vs (codeAny_of_tree ?_)
 show wpAny _ _ (callAny (.type "set") _) _ _ _
 refine Yb ⟨Code.quiet_builtin _ (by decide +kernel), Vf F.entry_type_call ?_⟩
 rw [Around.under_plain (weight_type_call_type "set" [.ref d] []) rfl]
 have h1 := F.called_set.notType
 have h2 := F.called_set.canCreate
 have hct := F.typeCall_set_1 (.ref d)
 repeat (any_goals (first | assumption | wp_step))
 refine YN (Zka (.ref d) (E := E) (Q₁ := λobj s₁ => obj = .ref s.heap.objs.size /\ s₁ = { s with heap := s.heap.push (ZS w) }) ⟨rfl, rfl⟩) λr s₁ hr => ?_
 cases r with
 | error e => exact hr
 | ok fl =>
  cases fl with
  | ret obj =>
   obtain ⟨rfl, rfl⟩ := hr
   have hS : (s.heap.push (ZS w)).get? s.heap.objs.size = some (ZS w) := Yn _ rfl
   have hT : Shared.TypeIs { s with heap := s.heap.push (ZS w) } (.ref s.heap.objs.size) "set" := ⟨_, hS, rfl⟩
   have hli := F.called_set.init.lookup
   have hbi := F.called_set.init.bind (.ref s.heap.objs.size)
   repeat (any_goals (first | assumption | wp_step))
   refine YN (Yat (R := wants (λr s₂ => r = .none /\ ∃ h', s₂ = { s with heap := h' } /\ h'.SetOf knd s.heap.objs.size (λk => decide (k ∈ kvs.map (·.1))) kvs.length /\ (∀ b o, s.heap.get? b = some o -> h'.get? b = some o)) E)
    F.called_set.init.plain F.entry_set_init (check_set_init_1 hT ?_)) λr₂ s₂ hr₂ => ?_
   ·obtain ⟨od, es, ep, hod, ⟨hcl, hdc, hsl⟩, hdd, hko, hpo, hno⟩ := hm
    obtain ⟨ocls, odict, odata, oslots⟩ := od
    simp only at hcl hdc hsl hdd
    subst hcl hdc hsl hdd
    have hod' : (s.heap.push (ZS w)).get? d = some { cls := .type "dict", dict := none, data := .dict es ep, slots := #[] } := Yf _ hod
    have hsls := F.sub_dict_set
    have hslf := F.sub_dict_frozenset
    have hdS : d < s.heap.objs.size := Ye hod
    unfold Builtin.«set.__init__» noKeywords Builtin.Frozenset.updateFrom
    generalize hPI : setRoomFor = PI
    wp_walk
    subst hPI
    have hlen : kvs.length = es.size := by rw [<- hpo.length]; simp
    refine ZnC (knd := knd) hS ⟨rfl, rfl, rfl⟩ rfl (by rfl) rfl (by omega) λh3 sb3 hS3 => ?_
    have hne : d ≠ s.heap.objs.size := Yl hdS
    refine Zol (s := { s with heap := h3 }) hne ((sb3.2 d hne).trans hod') rfl hko hpo hno (λe he => ?_) hn hS3 λh4 sb4 hS4 => ?_
    ·obtain ⟨k, hk, _⟩ := hko e (by simpa using he)
     exact hsc k _ hk
    ·refine Yb ⟨rfl, h4, rfl, hS4, λb o e => ?_⟩
     have hb : b ≠ s.heap.objs.size := Yl (Ye e)
     exact (sb4.2 b hb).trans ((sb3.2 b hb).trans (Yf _ e))
   ·cases r₂ with
    | error e => exact hr₂
    | ok fl₂ =>
     cases fl₂ with
     | ret r =>
      obtain ⟨rfl, h', rfl, hS', hk'⟩ := hr₂
      repeat (any_goals (first | assumption | wp_step))
      exact h _ hS' hk'
     | _ => exact hr₂.elim
  | _ => exact hr.elim
end
def Zfl : entryFor table "set.__ne__" = some Builtin.«frozenset.__ne__» :=
 entryFor_alias (id' := "frozenset.__ne__") (by kernel_rfl) (by first | rfl | decide +kernel | (unfold String.splitOn; simp +decide [String.splitOnAux])) (by decide +kernel) (by kernel_rfl)
section
variable {prog : Program} {w : World} {A : Around} {E : Value -> Shared -> Prop} {s : Shared} {κ : Type} [DecidableEq κ] {knd : KeyKind prog w κ}
def ZcA {d : Addr} {kvs : List (κ × Value)} {Q : Value -> Shared -> Prop} (hd0 : (d == sysModules) = false) (hm : s.heap.DictOf knd d kvs) (hsc : ∀ k u, knd.is k u = true -> u.scannable = true) (hn : kvs.length <= 30)
  (h : ∀ (h' : Heap) (S : κ -> Bool), (∀ k, S k = true ↔ k ∈ kvs.map (·.1)) -> h'.SetOf knd s.heap.objs.size S kvs.length -> (∀ b o, s.heap.get? b = some o -> h'.get? b = some o) -> Q (.ref s.heap.objs.size) { s with heap := h' }) :
  wpAny (model prog w) A (call (.type "set") [.ref d]) Q E s := Zgp hd0 hm hsc hn λh' hS hk => h h' _ (λk => by simp) hS hk
def ZkR {x : Value} (h : x.scannable = true) : Builtin.Frozenset.quietEq x = pure true := by
 cases x <;> first | rfl | (simp [Value.scannable] at h)
def Zgq : isSubtype (.type "set") (.type "frozenset") = pure false := by rw [isSubtype_type]; kernel_rfl
def ZfZ {a b : Addr} {oa ob : Obj} {es es' : Array (Int × Value)} {ep ep' : Nat} {t t' : SetTable} {Q : List (Int × Value) -> Shared -> Prop} (hoa : s.heap.get? a = some oa) (hda : oa.data = .set es ep t) (hf : t.fits es.size = true) (hel : ElemsOf knd es.toList)
  (hob : s.heap.get? b = some ob) (hdb : ob.data = .set es' ep' t') (hf' : t'.fits es'.size = true) (hel' : ElemsOf knd es'.toList) (q : Q es.toList s) : wpAny (model prog w) A (Builtin.Frozenset.walkUnseen a b) Q E s := by
 unfold Builtin.Frozenset.walkUnseen
 refine Ya (Y0 hoa hda hf (Ya (Y0 hob hdb hf' (Ya ?_))))
 refine Yab _ (λrest q' s' => s' = s /\ q' = (none, ()) /\ ∀ e ∈ rest, e.2.scannable = true) _ ?_ ?_ _ _ ⟨rfl, rfl, λe he => ?_⟩
 ·intro e rest q' s' h
  obtain ⟨rfl, rfl, hs⟩ := h
  obtain ⟨hh, x⟩ := e
  show wpAny _ _ (Builtin.Frozenset.quietEq x >>= λ_ => _) _ _ _
  exact Ya (wpAny_of_eq (ZkR (hs _ (.head _))) (Yb ⟨rfl, rfl, λe he => hs e (.tail _ he)⟩))
 ·rintro q' s' ⟨rfl, rfl, _⟩
  exact Yb q
 ·rcases Yu.mp he with h | h
  ·exact (hel e h).2
  ·exact (hel' e h).2
def ZiT {a b : Addr} {S S' : κ -> Bool} {n m : Nat} {nm : String} {Q : Bool -> Shared -> Prop} (ha : s.heap.SetOf knd a S n) (hb : s.heap.SetOf knd b S' m) (hnm : n <= m)
  (q : ∀ r : Bool, (r = true ↔ ∀ k, S k = true -> S' k = true) -> Q r s) : wpAny (model prog w) A (Builtin.Frozenset.subsetOf nm a b) Q E s := by
 obtain ⟨oa, es, ep, t, hoa, _, hda, hel, hmem, hz, hf, hn⟩ := id ha
 obtain ⟨ob, es', ep', t', hob, _, hdb, hel', hmem', hz', hf', hn'⟩ := id hb
 unfold Builtin.Frozenset.subsetOf Builtin.Frozenset.sizeOf
 refine Ya (Ya (Y0 hoa hda hf (Yb (Ya (Ya (Y0 hob hdb hf' (Yb ?_)))))))
 rw [if_neg (by omega)]
 refine Ya (YaB hoa hda hf (Ya (ZfZ hoa hda hf hel hob hdb hf' hel' (Ya ?_))))
 refine Yab _ (λrest q' s' => s' = s /\ q' = (none, ()) /\ ∃ pre, es.toList = pre ++ rest /\ ∀ e ∈ pre, ∃ k, knd.is k e.2 = true /\ S' k = true) _ ?_ ?_ _ _ ⟨rfl, rfl, [], rfl, λe he => by cases he⟩
 ·rintro ⟨hh, x⟩ rest q' s' ⟨rfl, rfl, pre, hpre, hin⟩
  have hx : (hh, x) ∈ es.toList := by rw [hpre]; simp
  obtain ⟨⟨k, hk, ehh⟩, hsc⟩ := hel _ hx
  dsimp only at hk ehh hsc ⊢
  rw [ehh]
  refine Ya (YD (wpAny_setFind_of hk hsc hb λr hr => ?_))
  cases r with
  | none =>
   have hS' : S' k = false := by rw [<- hr]; rfl
   dsimp only [Option.isNone]
   rw [if_pos rfl]
   refine Yb (Yb (q false ⟨(λz => by cases z), λz => ?_⟩))
   have := z k ((hmem k).mpr ⟨_, hx, hk⟩)
   rw [hS'] at this
   cases this
  | some j =>
   have hS' : S' k = true := by rw [<- hr]; rfl
   dsimp only [Option.isNone]
   rw [if_neg (by decide)]
   unfold Builtin.Frozenset.unchanged
   refine Ya (Ya (YaB hoa hda hf ?_))
   rw [if_neg (by simp)]
   refine wpAny_pure (wpAny_pure ⟨rfl, rfl, pre ++ [(hh, x)], by rw [hpre]; simp, λe he => ?_⟩)
   rcases Yu.mp he with h | h
   ·exact hin e h
   ·rw [YB.mp h]; exact ⟨k, hk, hS'⟩
 ·rintro q' s' ⟨rfl, rfl, pre, hpre, hin⟩
  rw [Y7] at hpre
  refine Yb (q true ⟨λ_ k hk => ?_, λ_ => rfl⟩)
  obtain ⟨e, he, hke⟩ := (hmem k).mp hk
  rw [hpre] at he
  obtain ⟨k', hk', hS'⟩ := hin e he
  obtain rfl : k' = k := knd.inj _ _ _ hk' hke
  exact hS'
set_option maxHeartbeats 3200000 in
def ZpH {a b : Addr} {S S' : κ -> Bool} {n m : Nat} {Q : Value -> Shared -> Prop} (ha : s.heap.SetOf knd a S n) (hb : s.heap.SetOf knd b S' m) (hu : A.units < cLine)
  (q : ∀ r : Bool, (r = true ↔ (n = m /\ ∀ k, S k = true -> S' k = true)) -> Q (.bool !r) s) : wpAny (model prog w) A (compareOp .NotEq (.ref a) (.ref b)) Q E s := by
 refine wpAny_richCompare_same_room (op := .NotEq) ha.typeIs hb.typeIs PySem.F.slot_set_ne (YV PySem.F.slot_set_ne ha.typeIs Zfl ?_ (PySem.F.args_set_ne_2 _ _)) hu
 obtain ⟨oa, es, ep, t, hoa, ⟨hc1, hc2, hc3⟩, hda, hel, hmem, hz, hf, hn⟩ := id ha
 obtain ⟨ob, es', ep', t', hob, ⟨hc1', hc2', hc3'⟩, hdb, hel', hmem', hz', hf', hn'⟩ := id hb
 have hs1 : isSubtype (.type "set") (.type "set") = pure true := F.called_set.sub
 show wpAny _ _ (Builtin.Frozenset.slot1 "__ne__" ⟨[.ref a, .ref b], []⟩ >>= λ_ => _) _ _ s
 refine Ya ?_
 unfold Builtin.Frozenset.slot1
 refine Ya (wpAny_of_eq (a := (Value.ref a, [Value.ref b])) rfl (Yb ?_))
 unfold Builtin.Frozenset.isAnySet
 refine Ya (Ya (Vz hb.typeIs hs1 (Yb ?_)))
 rw [if_neg (by decide)]
 dsimp only
 refine Ya (Yb (Ya (Yb ?_)))
 unfold Builtin.Frozenset.sizeOf
 refine Ya (Ya (Y0 hoa hda hf (Yb (Ya (Ya (Y0 hob hdb hf' (Yb (Ya ?_))))))))
 have fin : ∀ r : Bool, (r = true ↔ (n = m /\ ∀ k, S k = true -> S' k = true)) -> wpAny (model prog w) A.in1 (ret (.bool !r)) (λfin s' => ∃ v, fin = .done (.ret v) /\ (v ≠ .notImplemented /\ Q v s')) E s := λr hr => Yb ⟨_, rfl, (λz => by cases z), q r hr⟩
 by_cases e : es.size = es'.size
 ·rw [if_neg (by simp [e])]
  refine Ya (Ya (Vz ha.typeIs Zgq (Yb ?_)))
  rw [if_neg (by decide)]
  exact ZiT ha hb (by omega) λr hr => fin r ⟨λz => ⟨by omega, hr.mp z⟩, λz => hr.mpr z.2⟩
 ·rw [if_pos (by simpa using e)]
  exact Yb (fin false ⟨(λz => by cases z), λz => absurd (by omega) e⟩)
end
def ZgT (ta tb : TA) : TE := λZ H Q => ta Z H λvs H1 => ∃ a ka, vs = [.ref a] /\ Rd H1 a (.dK ka) /\ ka.length <= 30 /\ tb Z H1 λus H2 => ∃ b kb, us = [.ref b] /\ Rd H2 b (.dK kb) /\ kb.length <= 30 /\
 ∀ r : Bool, (r = true ↔ (ka.length = kb.length /\ ∀ k ∈ ka.map (·.1), k ∈ kb.map (·.1))) -> Q (.bl !r) H2
def Zgw {P : Program} {w : World} (k : ZC) (u : Value) (h : (ZO P w).is k u = true) : u.scannable = true := by
 have r := Zlm h
 cases k with
 | inl i => obtain ⟨t, rfl⟩ := (show ∃ t, u = Value.int i t from r); rfl
 | inr z => obtain ⟨t, rfl⟩ := (show ∃ t, u = Value.str z t from r); rfl
section
variable {X : Cx} {e1 e2 : Expr} {ta tb : TA} {p1 p2 q1 q2 pos : Pos}
def Inv.addPin {pins : List (Addr × Obj)} {Z : L2.St} {H : Hp} {s : Shared} {p : Addr × Obj} (I : Inv X pins Z H s) (h : s.heap.get? p.1 = some p.2 /\ H p.1 = none /\ p.1 ≠ X.env.locals /\ p.1 ∉ X.fs /\ ∀ v, p.2.data ≠ .cell v) : Inv X (p :: pins) Z H s :=
 ⟨I.ok, I.os, I.bare, I.base, I.loc, I.cell, I.free, I.freeC, λx hx => by
  rcases Yu.mp hx with hx | hx
  ·exact I.pin x (Vt _ hx)
  ·rcases Ym.mp hx with rfl | hx
   ·exact h
   ·exact I.pin x (Yx _ hx), I.hok, I.len⟩
def Inv.dropPin {pins : List (Addr × Obj)} {Z : L2.St} {H : Hp} {s : Shared} {p : Addr × Obj} (I : Inv X (p :: pins) Z H s) : Inv X pins Z H s :=
 ⟨I.ok, I.os, I.bare, I.base, I.loc, I.cell, I.free, I.freeC, λx hx => I.pin x (by
  rcases Yu.mp hx with hx | hx
  ·exact Vt _ hx
  ·exact Yx _ (YZ _ hx)), I.hok, I.len⟩
def ZlR (hu : X.A.units < cLine) (hg : Gl X "set") (hm : X.mg "set" = none) (ha : QA X [e1] ta) (hb : QA X [e2] tb) (hp1 : Zn e1 = true := by rfl) (hp2 : Zn e2 = true := by rfl) :
  PC X .NotEq (.Call (.Name "set" p1) [e1] [] q1) (.Call (.Name "set" p2) [e2] [] q2) (ZgT ta tb) := by
 intro pins s Z H Q I h
 refine Y2 (Jp I hg hm (show bootBuiltins "set" = some (.type "set") by decide +kernel) ?_ (by decide) (by decide))
 refine Y9 (ZR (ha.h q1 pins s Z H _ I h) λus s1 ⟨vs, H1, I1, r1, qq⟩ => ?_) (Zi hp1) rfl
 obtain ⟨a, ka, rfl, ea, hla, h2⟩ := qq
 obtain ⟨u, rfl, ru⟩ := Jq r1
 cases ru
 obtain ⟨_, hd0, va, rel, dd⟩ := JM I1.hok ea
 refine ZcA hd0 dd Zgw (by rw [<- rel.length]; exact hla) λh1 S1 eS1 hS1 hk1 => ?_
 have hn1 : H1 s1.heap.objs.size = none := I1.hok.fresh (Yd _)
 have f1 := I1.fpOk (Yd _) hn1
 have I1' : Inv X pins Z H1 { s1 with heap := h1 } := I1.kept (t' := s1.toks) hk1
 obtain ⟨o1, es1, ep1, t1, ho1, hx1, hd1, hr1⟩ := id hS1
 have I2 : Inv X ((s1.heap.objs.size, o1) :: pins) Z H1 { s1 with heap := h1 } := Inv.addPin I1' ⟨ho1, hn1, f1.2.1, f1.2.2.1, λv z => by rw [hd1] at z; cases z⟩
 refine Y2 (Jp I2 hg hm (show bootBuiltins "set" = some (.type "set") by decide +kernel) ?_ (by decide) (by decide))
 refine Y9 (ZR (hb.h q2 _ _ Z H1 _ I2 h2) λus s2 ⟨vs, H2, I3, r2, qq⟩ => ?_) (Zi hp2) rfl
 obtain ⟨b, kb, rfl, eb, hlb, q⟩ := qq
 obtain ⟨u, rfl, ru⟩ := Jq r2
 cases ru
 obtain ⟨_, hd0', vb, rel', dd'⟩ := JM I3.hok eb
 have hS1' : s2.heap.SetOf (ZO X.prog X.w) s1.heap.objs.size S1 va.length := ⟨o1, es1, ep1, t1, (I3.pin _ (Yx _ (Vd ..))).1, hx1, hd1, hr1⟩
 refine ZcA hd0' dd' Zgw (by rw [<- rel'.length]; exact hlb) λh3 S2 eS2 hS2 hk2 => ?_
 have hS1'' : h3.SetOf (ZO X.prog X.w) s1.heap.objs.size S1 va.length := let ⟨o, es, ep, t, ho, r⟩ := hS1'; ⟨o, es, ep, t, hk2 _ _ ho, r⟩
 have I4 : Inv X pins Z H2 { s2 with heap := h3 } := (Inv.dropPin I3).kept (t' := s2.toks) hk2
 refine ZpH (s := { s2 with heap := h3 }) hS1'' hS2 hu λr hr => ⟨.bl !r, H2, I4, rfl, q r ?_⟩
 rw [hr, rel.length, rel'.length, rel.keys, rel'.keys]
 exact ⟨λz => ⟨z.1, λk hk => (eS2 k).mp (z.2 k ((eS1 k).mpr hk))⟩, λz => ⟨z.1, λk hk => (eS2 k).mpr (z.2 k ((eS1 k).mp hk))⟩⟩
def ZnY (hu : X.A.units < cLine) (hg : Gl X "set") (hm : X.mg "set" = none) (ha : QA X [e1] ta) (hb : QA X [e2] tb) (hp1 : Zn e1 = true := by rfl) (hp2 : Zn e2 = true := by rfl) :
  QT X (.Compare (.Call (.Name "set" p1) [e1] [] q1) [.NotEq] [.Call (.Name "set" p2) [e2] [] q2] pos) (tB (ZgT ta tb)) := ⟨ZpZ (ZlR hu hg hm ha hb hp1 hp2)⟩
end
def ZiS (td : TE) : TE := λZ H Q => td Z H λx H1 => ∃ a kvs, x = .ref a /\ Rd H1 a (.dK kvs) /\ ∀ l H2, H1 l = none -> Same H1 H2 -> H2 l = some (.lst (kvs.map (·.2))) -> Q (.ref l) H2
def Zqb {kvs : List (ZC × V)} {vs : List (ZC × Value)} (r : KV kvs vs) : ∀ {i : Nat} {kv : ZC × V} {k : ZC} {u : Value}, kvs[i]? = some kv -> vs[i]? = some (k, u) -> RelV kv.2 u := by
 unfold KV at r
 induction r with
 | nil => intro i kv k u h; simp at h
 | cons h t ih =>
  intro i kv k u h1 h2
  cases i with
  | zero => simp at h1 h2; subst h1; rw [h2] at h; exact h.2
  | succ i => exact ih (by simpa using h1) (by simpa using h2)
section
variable {X : Cx} {o : Expr} {td : TE} {p pos apos cpos : Pos}
def Zhv (hg : Gl X "list") (hm : X.mg "list" = none) (ho : QE X o td) (hbase : attributeBase o "values" X.env (eval o X.env) = eval o X.env := by rfl) (hline : (apos.endLine == cpos.line) = true := by rfl) (hc : X.calm = true := by rfl) :
  QE X (.Call (.Name "list" p) [.Call (.Attribute o "values" apos) [] [] cpos] [] pos) (ZiS td) := ⟨by
 intro pins s Z H Q I h
 refine Y2 (Jp I hg hm (show bootBuiltins "list" = some (.type "list") by decide +kernel) ?_ (by decide) (by decide))
 refine Y9 ?_ rfl rfl
 show wpAny _ _ (spliced ((false, eval (.Call (.Attribute o "values" apos) [] [] cpos) X.env) :: [])) _ _ s
 refine YaA ?_
 refine wpAny_Call_method0_late hbase hline (ZR (ho.h pins s Z H _ I h) λv s1 ⟨x, H1, I1, r1, a, kvs, ex, ea, q⟩ => ?_)
 subst ex
 obtain rfl : v = Value.ref a := r1
 obtain ⟨t1, t2, _⟩ := ZmP I1 (.inl ⟨kvs, ea⟩)
 obtain ⟨z, hd, vs, rel, dd⟩ := JM I1.hok ea
 refine ⟨"dict", "dict.values", PySem.F.plainAttrs_dict, PySem.F.slot_dict_values, PySem.F.type_dict_values, t1, t2, VF rfl (PySem.evalArgs_none ?_)⟩
 refine call_meetsIn PySem.F.slot_dict_values dd.typeIs PySem.F.entry_dict_values (PySem.F.args_dict_values_1 _) (meets_dict_values (ZO X.prog X.w) a hd) ⟨⟨vs, dd⟩, Calls.spliced_nil ?_⟩
 have I2 : Inv X pins Z H1 { s1 with heap := s1.heap.push { cls := .type "dict_values", data := .fields #[.ref a] } } := I1.kept (t' := s1.toks) λb o e => Yf _ e
 obtain ⟨ep, at_⟩ := dd.dictAt
 have hf := I2.hok.fresh (Yd _)
 refine kdl_call (PySem.W.kdl_values (knd := ZO X.prog X.w) (kvs := vs) (ep := ep)) (I1.ok.hd hc) ⟨⟨_, Yn _ rfl, rfl, rfl⟩, at_.push _⟩ (by rw [<- rel.length]; exact z) λh' tk acc' c' kk hl ⟨hs, hacc⟩ => ?_
 refine ⟨.ref _, _, I2.laid (o := .lst (kvs.map (·.2))) kk (Nat.le_refl _) (show ObjOk X.prog X.w _ h' _ (.lst (kvs.map (·.2))) from ⟨by rw [List.length_map]; exact z, acc'.toList, c', Zdt ?_ λi x u e1 e2 => ?_, by simpa using hl⟩), rfl, q _ _ hf (ZG hf _) upd_same⟩
 ·rw [List.length_map, rel.length]; simpa using hs.symm
 ·obtain ⟨k, g1⟩ := hacc i u (by simpa using e2)
  rw [Yi] at e1
  obtain ⟨kv, g3, rfl⟩ := YG.mp e1
  exact Zqb rel g3 g1⟩
end
end My
namespace My
open PySem PySem.Spec L2
open PyProof.Rows hiding St
open PySem.W (kat_lt kat_cons kat_nil kat_yes kat_no kat_one kat_kind kat_run kat_snds kas_item kas_ask KatTups KatLex KatGo)
section
variable {prog : Program} {w : World} {A : Around} {E : Value -> Shared -> Prop} {s : Shared}
def Zei {a : Addr} {vs : List Value} {n : Nat} {P : PySem.Fin -> Shared -> Prop} {lt : Nat -> Nat -> Bool} {κ : SortKind} (ho : s.heap.get? a = some (seqObj "list" vs.toArray n)) (h64 : vs.length < 64) (O : KaOrd lt)
  (kind : 2 <= vs.length -> ∀ h', (∀ b o, b ≠ a -> s.heap.get? b = some o -> h'.get? b = some o) -> ∀ C : SortKind -> Shared -> Prop, C κ { s with heap := h' } -> wpAny (model prog w) A (keyKind' vs.toArray) C E { s with heap := h' })
  (cmp : ∀ h', (∀ b o, b ≠ a -> s.heap.get? b = some o -> h'.get? b = some o) -> ∀ i j, i < vs.length -> j < vs.length -> ∀ C : Bool -> Shared -> Prop, C (lt i j) { s with heap := h' } -> wpAny (model prog w) A (keyLt' κ (vs.getD i Value.none) (vs.getD j Value.none)) C (λ_ _ => False) { s with heap := h' })
  (h : ∀ p : Array Nat, KaIn vs.length p -> JX lt p vs.length -> P (.done (.ret .none)) { s with heap := sortedHeap s.heap a vs (List.toArray (p.toList.map λi => vs.getD i Value.none)) }) :
  wpAny (model prog w) A (Builtin.«list.sort» ⟨[.ref a], []⟩) P E s := by
 rw [list_sort_plain]
 have ha : a < s.heap.objs.size := Ye ho
 refine Ya (listItems_at ho rfl ?_)
 refine Ya (listUpdate_at ho rfl ?_ (by rw [YM, YJ]; omega) (YA _))
 obtain ⟨e1, ho1⟩ : ∃ e1, (s.heap.update a (Obj.mapSeq λ_ => #[])).get? a = some (seqObj "list" #[] e1) := ⟨_, Yag ho (λ_ => #[])⟩
 refine Ya (seqEpoch_at ho1 rfl ?_)
 refine Ya (wpAny_newTuple ?_ (by show vs.length <= _; rw [YJ]; omega))
 refine Ya (VX ?_ (YA _))
 refine YD ?_
 have ho6 : (((s.heap.update a (Obj.mapSeq λ_ => #[])).push (seqObj "tuple" vs.toArray 0)).push (seqObj "list" #[] 0)).get? a = some (seqObj "list" #[] e1) :=
  Yf _ (Yf _ ho1)
 have kp : ∀ b o, b ≠ a -> s.heap.get? b = some o -> (((s.heap.update a (Obj.mapSeq λ_ => #[])).push (seqObj "tuple" vs.toArray 0)).push (seqObj "list" #[] 0)).get? b = some o := λb o hb e =>
  Yf _ (Yf _ ((Heap.get?_update_ne _ _ _ _ hb).trans e))
 show wpAny (model prog w) A _ P E { s with heap := ((s.heap.update a (Obj.mapSeq λ_ => #[])).push (seqObj "tuple" vs.toArray 0)).push (seqObj "list" #[] 0) }
 dsimp only
 by_cases h2 : vs.toArray.size < 2
 ·rw [if_pos h2, if_pos h2]
  refine Ya (Yb ?_)
  rw [StateT.run_pure]
  refine Ya (Yb ?_)
  dsimp only
  refine Ya (seqEpoch_at ho6 rfl ?_)
  have hv : ∀ l : List Value, l.length < 2 -> ((l.toArray.zip l.toArray).map (·.2)) = List.toArray ((List.toArray (List.range l.length)).toList.map λi => l.getD i Value.none) := λl hl => by
   match l, hl with
   | [], _ => simp
   | [v], _ => simp
  have hz : vs.length < 2 := by simpa using h2
  have e : (arrOf (SortSt.mk' general' (vs.toArray.zip vs.toArray) #[] 7 none)).map (·.2) = List.toArray ((List.toArray (List.range vs.length)).toList.map λi => vs.getD i Value.none) := hv vs hz
  rw [e]
  refine wpAny_bind (listUpdate_at ho6 rfl ?_ (Nat.zero_le _) (by simp; rw [sizeLine_eq]; omega))
  simp only [bne_self_eq_false, Bool.false_eq_true, if_false]
  refine Yb (h (List.toArray (List.range vs.length)) (Array.Perm.refl _) λi j hij hj => ?_)
  have : i = j := by omega
  subst this; exact O.refl _
 ·have hn : 2 <= vs.length := by simpa using h2
  rw [if_neg h2, if_neg h2]
  refine Ya (kind hn _ kp _ ?_)
  refine Ya (Yp (kat_run (G := λp s' => KaIn vs.length p /\ JX lt p vs.length /\ s' = { s with heap := ((s.heap.update a (Obj.mapSeq λ_ => #[])).push (seqObj "tuple" vs.toArray 0)).push (seqObj "list" #[] 0) })
   (Q := λst' s' => ∃ p : Array Nat, p.size = vs.length /\ arrOf st' = p.map (kas_item (vs.toArray.zip vs.toArray)) /\ failedOf st' = none /\ KaIn vs.length p /\ JX lt p vs.length /\ s' = { s with heap := ((s.heap.update a (Obj.mapSeq λ_ => #[])).push (seqObj "tuple" vs.toArray 0)).push (seqObj "list" #[] 0) })
   rfl hn h64 (λp' st' s' a1 a2 a3 ⟨a4, a5, a6⟩ => ⟨p', a1, a2, a3, a4, a5, a6⟩) ?_) ?_ λ_ _ e => e)
  ·have J1 : Zeu lt (kas_ask prog w A κ vs) (λs2 => s2 = { s with heap := ((s.heap.update a (Obj.mapSeq λ_ => #[])).push (seqObj "tuple" vs.toArray 0)).push (seqObj "list" #[] 0) }) vs.length := by
    rintro i j hi hj C s2 rfl hC
    exact cmp _ kp i j hi hj C (hC _ rfl)
   exact Znk O J1 (by omega) rfl λp s2 hp e2 hu => ⟨hp, hu, e2⟩
  rintro ⟨⟨⟩, st'⟩ s' ⟨p, hp, har, hf, hin, hup, rfl⟩
  dsimp only
  have hout := kat_snds rfl har
  rw [hout]
  have hsz : (List.toArray (p.toList.map λi => vs.getD i Value.none)).size = vs.length := by rw [YM, Yg, YL, hp]
  refine Ya (seqEpoch_at ho6 rfl ?_)
  refine Ya (listUpdate_at ho6 rfl ?_ (YA _) (Yh (Vp hsz) (by rw [YJ]; omega)))
  rw [hf]
  simp only [bne_self_eq_false, Bool.false_eq_true, if_false]
  exact Yb (h p hin hup)
def Zh9 {l : Addr} {vs : List Value} {Q : Value -> Shared -> Prop} {lt : Nat -> Nat -> Bool} {κ : SortKind} (hl : s.heap.IsList l vs.toArray) (h64 : vs.length < 64) (O : KaOrd lt)
  (kind : 2 <= vs.length -> ∀ h', (∀ b o, s.heap.get? b = some o -> h'.get? b = some o) -> ∀ C : SortKind -> Shared -> Prop, C κ { s with heap := h' } -> wpAny (model prog w) A.in1.in1 (keyKind' vs.toArray) C (λ_ _ => False) { s with heap := h' })
  (cmp : ∀ h', (∀ b o, s.heap.get? b = some o -> h'.get? b = some o) -> ∀ i j, i < vs.length -> j < vs.length -> ∀ C : Bool -> Shared -> Prop, C (lt i j) { s with heap := h' } -> wpAny (model prog w) A.in1.in1 (keyLt' κ (vs.getD i Value.none) (vs.getD j Value.none)) C (λ_ _ => False) { s with heap := h' })
  (h : ∀ p : Array Nat, KaIn vs.length p -> JX lt p vs.length -> Q (.ref (s.heap.objs.size + 1)) { s with heap := sortedAll s.heap vs (List.toArray (p.toList.map λi => vs.getD i Value.none)) }) :
  wpAny (model prog w) A (call (.builtin "sorted") [.ref l]) Q E s := by
 refine Calls.call_function_entry kind_sorted plain_sorted entry_sorted (args_sorted1 _) ?_
 unfold Builtin.«sorted»
 refine Ya (m := checkCount "sorted" 1 1 _) (Yb ?_)
 refine Ya (collect_list hl ?_ (by rw [YJ]; omega))
 refine Ya (VX ?_ (by rw [YJ]; omega))
 have hsz : ((s.heap.push (seqObj "list" #[] 0)).update s.heap.objs.size (Obj.mapSeq (· ++ vs.toArray))).objs.size = s.heap.objs.size + 1 := by
  rw [Yac, size_push']
 have hoL : (((s.heap.push (seqObj "list" #[] 0)).update s.heap.objs.size (Obj.mapSeq (· ++ vs.toArray))).push (seqObj "list" vs.toArray 0)).get? (s.heap.objs.size + 1) = some (seqObj "list" vs.toArray 0) := by
  rw [<- hsz]; exact Yn _ rfl
 have keep : ∀ b o, s.heap.get? b = some o -> (((s.heap.push (seqObj "list" #[] 0)).update s.heap.objs.size (Obj.mapSeq (· ++ vs.toArray))).push (seqObj "list" vs.toArray 0)).get? b = some o := λb o q => by
  have hlt : b < s.heap.objs.size := Ye q
  rw [YaG _ _ _ (by rw [hsz]; exact Yl (Y3 hlt)), Heap.get?_update_ne _ _ _ _ (Yl hlt), YaG _ _ _ (Yl hlt)]
  exact q
 show wpAny _ _ _ _ _ { s with heap := ((s.heap.push (seqObj "list" #[] 0)).update s.heap.objs.size (Obj.mapSeq (· ++ vs.toArray))).push (seqObj "list" vs.toArray 0) }
 rw [hsz]
 refine Ya (YD (YV slot_list_sort ⟨_, hoL, rfl⟩ entry_list_sort ?body (args_list_sort _)))
 case body =>
  have lt2 : ∀ {b o}, s.heap.get? b = some o -> b ≠ s.heap.objs.size + 1 := λe => Yl (Y3 (Ye e))
  refine Zei (s := { s with heap := ((s.heap.push (seqObj "list" #[] 0)).update s.heap.objs.size (Obj.mapSeq (· ++ vs.toArray))).push (seqObj "list" vs.toArray 0) }) hoL h64 O
   (λh2 h' kp C q => Yp (kind h2 h' (λb o e => kp b o (lt2 e) (keep b o e)) C q) (λ_ _ x => x) λ_ _ x => x.elim) (λh' kp i j hi hj C q => cmp h' (λb o e => kp b o (lt2 e) (keep b o e)) i j hi hj C q) λp hp hu => ?_
  exact ⟨_, rfl, Yb ⟨_, rfl, h p hp hu⟩⟩
end
def JO (x y : Int × Str) : Bool := if x.1 = y.1 then decide (x.2.cps.toList < y.2.cps.toList) else decide (x.1 < y.1)
def sto_row : Sto JO where
 irr a := by rw [JO, if_pos rfl]; exact sto_str.irr _
 tr a b c h1 h2 := by
  unfold JO at h1 h2 ⊢
  split at h1 <;> split at h2
  ·rw [if_pos (by omega)]; exact sto_str.tr _ _ _ h1 h2
  ·have := VL h2
   rw [if_neg (by omega)]; exact Y8 (by omega)
  ·have := VL h1
   rw [if_neg (by omega)]; exact Y8 (by omega)
  ·have := VL h1
   have := VL h2
   rw [if_neg (by omega)]; exact Y8 (by omega)
 tri a b h1 h2 := by
  unfold JO at h1 h2
  split at h1
  ·rename_i e
   rw [if_pos e.symm] at h2
   exact Prod.ext e (sto_str.tri _ _ h1 h2)
  ·rename_i e
   rw [if_neg (Ne.symm e)] at h2
   have := Yas h1
   have := Yas h2
   omega
def RowO (h : Heap) (k : Int × Str) (v : Value) : Prop := ∃ (a : Addr) (o : Obj) (t u n : Nat) (r : Value), v = .ref a /\ h.get? a = some o /\ o.cls = .type "tuple" /\ o.data = .seq #[.int k.1 t, .str k.2 u, r] n
theorem RowO.kept {h h' : Heap} {k : Int × Str} {v : Value} (kp : ∀ b o, h.get? b = some o -> h'.get? b = some o) (r : RowO h k v) : RowO h' k v := by
 obtain ⟨a, o, t, u, n, r, h1, h2, h3⟩ := r
 exact ⟨a, o, t, u, n, r, h1, kp _ _ h2, h3⟩
section
variable {prog : Program} {w : World} {A : Around} {E : Value -> Shared -> Prop} {s : Shared}
def Zk4 {ks : List Value} (h2 : 2 <= ks.length) (h : ∀ v ∈ ks, ∃ k, RowO s.heap k v) {C : SortKind -> Shared -> Prop} (q : C (tuples' true) s) : wpAny (model prog w) A (keyKind' ks.toArray) C E s := by
 have : ∀ (l : List Value), (∀ v ∈ l, ∃ k, RowO s.heap k v) -> ∃ fs : List Value, KatTups s.heap l fs /\ fs.length = l.length /\ ∀ v ∈ fs, ∃ n t, v = .int n t := by
  intro l
  induction l with
  | nil => intro _; exact ⟨[], .nil, rfl, λv hv => by cases hv⟩
  | cons v l ih =>
   intro hl
   obtain ⟨k, a, o, t, u, n, r, rfl, ho, hc, hd⟩ := hl v (.head _)
   obtain ⟨fs, g1, g2, g3⟩ := ih λw hw => hl w (.tail _ hw)
   refine ⟨.int k.1 t :: fs, .cons ho hc hd rfl g1, by simp [g2], λw hw => ?_⟩
   rcases Ym.mp hw with rfl | hw
   ·exact ⟨_, _, rfl⟩
   ·exact g3 w hw
 obtain ⟨fs, g1, g2, g3⟩ := this ks h
 refine kat_kind (T := .type "int") g1 (by omega) (λv hv => ?_) rfl ?_
 ·obtain ⟨n, t, rfl⟩ := g3 v hv
  exact .now
 ·exact q
def ZoX {k k' : Int × Str} {v v' : Value} (h : RowO s.heap k v) (h' : RowO s.heap k' v') (hne : k = k' -> v = v') {C : Bool -> Shared -> Prop} (q : C (JO k k') s) : wpAny (model prog w) A (keyLt' (tuples' true) v v') C E s := by
 obtain ⟨a, o, t, u, n, r, rfl, ho, hc, hd⟩ := h
 obtain ⟨a', o', t', u', n', r', rfl, ho', hc', hd'⟩ := h'
 refine kat_lt ho hd ho' hd' ?_
 show KatLex prog w A true (decide (3 < 3)) C [(.int k.1 t, .int k'.1 t'), (.str k.2 u, .str k'.2 u'), (r, r')] 0 s
 refine kat_cons (wpAny_eqBool_int ?_)
 by_cases e : k.1 = k'.1
 ·rw [show (k.1 == k'.1) = true by simp [e]]
  refine kat_yes (kat_cons (wpAny_eqBool_str ?_))
  rw [JO, if_pos e] at q
  by_cases e2 : k.2 = k'.2
  ·rw [Y8 e2]
   have ea : a = a' := by have := hne (Prod.ext e e2); cases this; rfl
   subst ea
   rw [ho] at ho'
   cases ho'
   rw [hd] at hd'
   have er : r = r' := by
    injection hd' with h1
    injection h1 with h1
    injection h1 with _ h1
    injection h1 with _ h1
    injection h1
   subst er
   refine kat_yes (kat_cons (SeqAt.EqAt.same _ _ _ _ _ ?_))
   refine kat_yes (kat_nil ?_)
   rw [e2, sto_str.irr] at q
   exact q
  ·rw [Y5 e2]
   exact kat_no (kat_one _ _ (PyProof.Rows.lt_str (show PySem.W.BoolBack C (.bool (decide (k.2.cps.toList < k'.2.cps.toList))) s from q)))
 ·rw [show (k.1 == k'.1) = false by simp [e]]
  rw [JO, if_neg e] at q
  exact kat_no (oneLt_int q)
end
section
variable {X : Cx} {e : Expr} {t : TA} {p pos : Pos}
def Zfp : List V -> Hp -> VK -> Prop := λxs H Q => ∃ (a : Addr) (ps : List (V × Int × Str)), xs = [.ref a] /\ H a = some (.lst (ps.map (·.1))) /\ ps.length < 64 /\ (∀ x ∈ ps, ∃ t r, x.1 = .ref t /\ H t = some (.tup [.int x.2.1, .str x.2.2, r])) /\ (ps.map (·.2)).Nodup /\
 ∀ l H2 (qs : List (V × Int × Str)), H l = none -> Same H H2 -> H2 l = some (.lst (qs.map (·.1))) -> qs.Perm ps -> qs.Pairwise (λx y => JO x.2 y.2 = true) -> Q (.ref l) H2
def ZeO : CallR X (.builtin "sorted") Zfp := by
 intro pins s Z H xs us Q I r h
 obtain ⟨a, ps, rfl, e, hl, hrow, hnd, q⟩ := h
 obtain ⟨u, rfl, ru⟩ := Jq r
 cases ru
 obtain ⟨_, its, n, hv, g⟩ := I.hok a _ e
 have hil : its.length = ps.length := by rw [<- hv.length, Yg]
 have hr : ∀ i, (hi : i < ps.length) -> RowO s.heap ps[i].2 (its.getD i Value.none) := λi hi => by
  obtain ⟨u, hu, rv⟩ := hv.get (i := i) (x := ps[i].1) (by rw [Yi, Yc hi]; rfl)
  have eu : its.getD i Value.none = u := by rw [List.getD_eq_getElem?_getD, hu]; rfl
  rw [eu]
  obtain ⟨t, r, e1, e2⟩ := hrow _ (YI hi)
  rw [e1] at rv
  cases rv
  obtain ⟨_, its2, r2, ⟨o, ho, hc, n2, hd⟩⟩ := I.hok t _ e2
  cases r2 with
  | @cons _ u1 _ us r1 r2 =>
   cases r2 with
   | @cons _ u2 _ us2 r2 r3 =>
    cases r3 with
    | @cons _ u3 _ us3 r3 r4 =>
     cases r4
     obtain ⟨t1, rfl⟩ := r1
     obtain ⟨t2, rfl⟩ := r2
     exact ⟨t, o, t1, t2, n2, u3, rfl, ho, hc, hd⟩
 have hD : s.heap.objs.size <= s.heap.objs.size + 1 := Vq _
 have hf : H (s.heap.objs.size + 1) = none := I.hok.fresh hD
 have hinj : ∀ i j, (hi : i < ps.length) -> (hj : j < ps.length) -> ps[i].2 = ps[j].2 -> i = j := λi j hi hj e => by
  have h1 := Yal hnd i (by rw [Yg]; exact hi)
  have h2 := Yal hnd j (by rw [Yg]; exact hj)
  rw [List.getElem_map] at h1 h2
  rw [e, h2] at h1
  exact h1.symm
 let kf : Nat -> Int × Str := λi => (ps.getD i (.non, 0, Str.empty)).2
 have hkf : ∀ i, (hi : i < ps.length) -> kf i = ps[i].2 := λi hi => by show (ps.getD i _).2 = _; simp [hi]
 refine Zh9 (vs := its) (lt := λi j => JO (kf i) (kf j)) (κ := tuples' true) ⟨_, g, rfl, n, rfl⟩ (by omega) (sto_row.ka kf) (λh2 h' kp C hC => ?_) (λh' kp i j hi hj C hC => ?_) λpp hpp hu => ?_
 ·refine Zk4 h2 (λv hv => ?_) hC
  obtain ⟨i, hi, ei⟩ := VH hv
  have := (hr i (by omega)).kept kp
  rw [List.getD_eq_getElem?_getD, Yc hi] at this
  exact ⟨_, ei ▸ this⟩
 ·have hi' : i < ps.length := by omega
  have hj' : j < ps.length := by omega
  refine ZoX ((hr i hi').kept kp) ((hr j hj').kept kp) (λek => ?_) ?_
  ·rw [hinj i j hi' hj' ek]
  ·rw [<- hkf i hi', <- hkf j hj']; exact hC
 have hz1 : ((s.heap.push (seqObj "list" #[] 0)).update s.heap.objs.size (Obj.mapSeq (· ++ its.toArray))).objs.size = s.heap.objs.size + 1 := by rw [Yac, size_push']
 have hk : ∀ b o, s.heap.get? b = some o -> (sortedAll s.heap its (List.toArray (pp.toList.map λi => its.getD i Value.none))).get? b = some o := λb o eb => by
  have hb := Ye eb
  unfold sortedAll
  exact Za7 (Yl (Y3 hb)) (Yf _ ((Vm _ _ (Vk hb)).trans (Yf _ eb)))
 obtain ⟨c, e1⟩ : ∃ c, (sortedAll s.heap its (List.toArray (pp.toList.map λi => its.getD i Value.none))).get? (s.heap.objs.size + 1) = some { cls := .type "list", dict := none, data := .seq (List.toArray (pp.toList.map λi => its.getD i Value.none)) c, slots := #[] } := by
  unfold sortedAll
  refine Zb8 (n := 0) ?_
  rw [<- hz1]
  exact Yn _ rfl
 have hpl : pp.toList.Perm (List.range ps.length) := by rw [<- hil]; exact Array.perm_iff_toList_perm.mp hpp
 have hplt : ∀ i ∈ pp.toList, i < ps.length := λi hi => Vg.mp (hpl.mem_iff.mp hi)
 let qs : List (V × Int × Str) := pp.toList.map λi => ps.getD i (.non, 0, Str.empty)
 have hq1 : qs.map (·.1) = pp.toList.map λi => (ps.map (·.1)).getD i .non := by
  show (pp.toList.map _).map _ = _
  rw [Yv]
  refine YO λi hi => ?_
  have := hplt i hi
  simp [this]
 have hvals : Vals (qs.map (·.1)) (pp.toList.map λi => its.getD i Value.none) := by rw [hq1]; exact ZgM hv _
 have hql : qs.length = ps.length := by show (pp.toList.map _).length = _; rw [Yg, hpl.length_eq, List.length_range]
 have hqp : qs.Perm ps := by
  have h1 : qs.Perm ((List.range ps.length).map λi => ps.getD i (.non, 0, Str.empty)) := hpl.map _
  have h2 : ((List.range ps.length).map λi => ps.getD i (.non, 0, Str.empty)) = ps := List.ext_getElem (by simp) λi h1 h2 => by simp [h2]
  rw [h2] at h1
  exact h1
 have hpn : pp.toList.Nodup := hpl.symm.nodup List.nodup_range
 have hpw : qs.Pairwise (λx y => JO x.2 y.2 = true) := by
  refine Vx.mpr (List.pairwise_iff_getElem.mpr λi j hi hj hij => ?_)
  have hs := hpp.size
  have gi : pp.getD i 0 = pp.toList[i] := by simp at hi; simp [hi]
  have gj : pp.getD j 0 = pp.toList[j] := by simp at hj; simp [hj]
  have h1 := hu i j (by omega) (by simp at hj; omega)
  simp only [gi, gj] at h1
  show JO (kf _) (kf _) = true
  cases h2 : JO (kf pp.toList[i]) (kf pp.toList[j]) with
  | true => rfl
  | false =>
   have h3 := sto_row.tri _ _ h2 h1
   have l1 := hplt _ (YI hi)
   have l2 := hplt _ (YI hj)
   rw [hkf _ l1, hkf _ l2] at h3
   have h4 := hinj _ _ l1 l2 h3
   have h5 := Yal hpn i hi
   have h6 := Yal hpn j hj
   rw [h4, h6] at h5
   omega
 have hol : (qs.map (·.1)).length <= sizeLine := by rw [Yg, hql]; exact Yh (Ys hl) (by decide)
 exact ⟨.ref (s.heap.objs.size + 1), upd H (s.heap.objs.size + 1) (.lst (qs.map (·.1))), I.laid (t' := s.toks) (o := .lst (qs.map (·.1))) hk hD (show ObjOk X.prog X.w _ _ _ (.lst (qs.map (·.1))) from ⟨hol, _, c, hvals, by simpa using e1⟩), rfl, q _ _ qs hf (ZG hf _) upd_same hqp hpw⟩
def ZhJ (hg : Gl X "sorted") (hm : X.mg "sorted" = none) (ha : QA X [e] t) (hp : Zn e = true := by rfl) : QE X (.Call (.Name "sorted" p) [e] [] pos) (tCB Zfp t) :=
 ⟨ZaO ZeO hg hm (by decide +kernel) ha.h (by decide) (by decide) (Zi hp) rfl⟩
end
end My
namespace My
open PySem PySem.SeqAt PySem.MeetsSeq PySem.MeetsSeq2 PySem.MeetsSeq3 PyProof.Rows
open AutoSeq1 (wpAny_loadPart')
end My
namespace My
open PySem PySem.Spec L2
open PyProof.Rows hiding St
section
variable {X : Cx} {a b : Expr} {ta tb : TE} {pos : Pos} {k : Nat}
end
section
variable {X : Cx} {o e : Expr} {apos cpos : Pos} {td ty te : TE}
def ZmX (ho : QE X o td) (he : QE X e ty) (m : M1 X o "pop" apos e cpos := by exact ⟨rfl, rfl, rfl, rfl⟩) : QE X (.Call (.Attribute o "pop" apos) [e] [] cpos) (Zg1 td ty) := ⟨ZkS ho.h he.h m⟩
end
end My
set_option maxHeartbeats 4000000
namespace My
open PySem L2
theorem Zkr {i j : Int} : ZqD (.int i) (.int j) = true := rfl
theorem ZjZ {i j : Str} : ZqD (.str i) (.str j) = true := rfl
end My
local macro_rules | `(tactic| walk_at "rd") => `(tactic| ((try dsimp only [L2.Zqe, L2.Zlc, L2.ZqC, L2.Zo7, L2.ZpE, L2.Zmg, L2.Zku, L2.Jy, L2.Zoa, L2.tC, L2.tOp, L2.tUn, L2.rI, L2.rI0, L2.rU, L2.rEq, L2.rNe, L2.JP, L2.tB, L2.ZrP, L2.tOr, L2.ZqP, L2.Zkz, L2.ZrI, L2.ZkB, L2.tIf, L2.Zfv, L2.tCB, L2.Zn5, L2.Zh2, My.Zmm, My.Zle, L2.ZqR, My.ZlN, L2.ZkF, L2.ZqO, My.ZkU, My.Zl8, L2.ZqQ, L2.ZqU, L2.ZqH, L2.CMul, L2.ZqI, L2.tBM, L2.ZfO, List.getElem?_cons_zero, List.getElem?_cons_succ, List.set_cons_zero, List.set_cons_succ, List.cons_append, List.nil_append, My.Zkr, My.ZjZ, Bool.not_true, Bool.not_false, List.length_cons, List.length_nil, My.ZqJ, My.Zmx, My.ZpU, My.Zii, My.tFs, My.ZqS, My.tLm, L2.Zhd, L2.Zmu, L2.ZqA, L2.Zec, My.tDG, My.sDP, My.tDI, L2.ZqG, L2.tSl, L2.Zet, L2.Zln, My.tXm, My.Zl6, My.Zmj, My.ZqL, My.ZeW, My.ZqE, My.ZrF, My.ZcJ, My.ZgO, My.ZkC, L2.ZmU, My.ZmC, L2.Zg8, L2.ZqT, L2.Zk1, L2.ZhA, L2.Zmr, L2.Zpn, L2.ZqB, My.ZqN, My.tXE, My.tXS, My.Zgs, My.Zg2]); (try simp only [L2.Zqe, L2.Zlc, L2.ZqC, L2.Zo7, L2.ZpE, L2.Zmg, L2.Zku, L2.Jy, L2.Zoa, L2.tC, L2.tOp, L2.tUn, L2.rI, L2.rI0, L2.rU, L2.rEq, L2.rNe, L2.JP, L2.tB, L2.ZrP, L2.tOr, L2.ZqP, L2.Zkz, L2.ZrI, L2.ZkB, L2.tIf,
 L2.Zfv, L2.tCB, L2.Zn5, L2.Zh2, My.Zmm, My.Zle, L2.ZqR, My.ZlN, L2.ZkF, L2.ZqO, My.ZkU, My.Zl8, L2.ZqQ, L2.ZqU, L2.ZqH, L2.CMul, L2.ZqI, L2.tBM, L2.ZfO,
 List.getElem?_cons_zero, List.getElem?_cons_succ, List.set_cons_zero, List.set_cons_succ, Y7, List.cons_append, List.nil_append, Option.some.injEq, Option.some_inj, exists_eq_left, exists_eq_left', exists_eq_right, exists_eq, exists_eq', exists_and_left, exists_and_right, exists_const,
 L2.V.int.injEq, L2.V.bl.injEq, L2.V.ref.injEq, L2.V.str.injEq, L2.V.ty.injEq, L2.HO.lst.injEq, L2.HO.tup.injEq, reduceCtorEq, List.cons.injEq, and_true, true_and, and_false, false_and, exists_false, or_false, false_or, My.Zkr, My.ZjZ, Bool.not_true, Bool.not_false, Ve, Bool.false_eq_true, if_true, if_false, Bool.not_eq_true', decide_eq_false_iff_not, ite_self, ge_iff_le, gt_iff_lt, My.Zr2, My.Zsa, My.Zsb, My.Zsl, YQ, List.length_nil, Nat.zero_add, and_assoc, My.ZqJ, My.Zmx, My.ZpU, My.Zii, My.tFs, My.ZqS, My.tLm, L2.Zhd, L2.Zmu, L2.ZqA, L2.Zec, My.tDG, My.sDP, My.tDI, L2.ZqG, L2.tSl, L2.Zet, L2.Zln, My.tXm, My.Zl6, My.Zmj, My.ZqL, My.ZeW, My.ZqE, My.ZrF, My.ZcJ, My.ZgO, My.ZkC, L2.ZmU, My.ZmC, L2.Zg8, L2.ZqT, L2.Zk1, L2.ZhA, L2.Zmr, L2.Zpn, L2.ZqB, My.ZqN, My.tXE, My.tXS, My.Zgs, My.Zg2, My.Zno, My.Zmk, My.Zoo, My.Zlv, My.Ziy, My.Zl1, My.ZnJ, My.ZpF, My.ZoV, My.ZpI, My.ZpV, My.Zo6, My.ZpR, Bool.true_eq_false, Int.reduceToNat, Int.reducePow, Int.reduceLT, Int.reduceLE, Int.reduceNeg, Int.reduceAbs, Int.reduceSub, Int.reduceMul, Nat.reduceLT, Nat.reduceLeDiff, Nat.reducePow, Int.zero_add, true_or, or_true, eq_self])))
namespace My
open PySem PySem.Spec L2
open PyProof.Rows hiding St
def JF (i : Nat) : Stmt := PySem.Challenge.pw_roadshare_k31_no_sharings.main.body.getD i (.Pass ⟨0, 0, 0, 0⟩)
abbrev Zcu : Stmt := JF 11
def ZfW : FnScope ["thing"] ["thing"] (Zb Zcu) := ⟨rfl, rfl, rfl, by decide +kernel, rfl, by decide +kernel, by decide +kernel⟩
abbrev Zau : Stmt := JF 12
def sc_greatest_divisor : FnScope ["one", "other", "larger", "smaller", "rest"] ["one", "other"] (Zb Zau) := ⟨rfl, rfl, rfl, by decide +kernel, rfl, by decide +kernel, by decide +kernel⟩
abbrev Zca : Stmt := JF 15
def sc_is_ratio : FnScope ["thing", "top", "bottom"] ["thing"] (Zb Zca) := ⟨rfl, rfl, rfl, by decide +kernel, rfl, by decide +kernel, by decide +kernel⟩
abbrev Ji : Stmt := JF 16
def sc_ratio : FnScope ["top", "bottom", "divisor"] ["top", "bottom"] (Zb Ji) := ⟨rfl, rfl, rfl, by decide +kernel, rfl, by decide +kernel, by decide +kernel⟩
abbrev ZaB : Stmt := JF 13
def Zcc : FnScope ["one", "other"] ["one", "other"] (Zb ZaB) := ⟨rfl, rfl, rfl, by decide +kernel, rfl, by decide +kernel, by decide +kernel⟩
abbrev ZdI : Stmt := JF 17
def Zhq : FnScope ["one", "other"] ["one", "other"] (Zb ZdI) := ⟨rfl, rfl, rfl, by decide +kernel, rfl, by decide +kernel, by decide +kernel⟩
abbrev Zc7 : Stmt := JF 18
def ZhB : FnScope ["one", "other"] ["one", "other"] (Zb Zc7) := ⟨rfl, rfl, rfl, by decide +kernel, rfl, by decide +kernel, by decide +kernel⟩
abbrev Zce : Stmt := JF 19
def sc_total_of : FnScope ["some", "bottom"] ["some"] (Zb Zce) := ⟨rfl, rfl, rfl, by decide +kernel, rfl, by decide +kernel, by decide +kernel⟩
abbrev ZaH : Stmt := JF 20
def sc_common_bottom : FnScope ["some", "bottom", "one"] ["some"] (Zb ZaH) := ⟨rfl, rfl, rfl, by decide +kernel, rfl, by decide +kernel, by decide +kernel⟩
abbrev Zcs : Stmt := JF 21
def Zgi : FnScope ["one", "bottom"] ["one", "bottom"] (Zb Zcs) := ⟨rfl, rfl, rfl, by decide +kernel, rfl, by decide +kernel, by decide +kernel⟩
abbrev Zck : Stmt := JF 35
def Zge : FnScope ["thing"] ["thing"] (Zb Zck) := ⟨rfl, rfl, rfl, by decide +kernel, rfl, by decide +kernel, by decide +kernel⟩
abbrev Zdz : Stmt := JF 36
def sc_is_road : FnScope ["thing", "many", "to"] ["thing", "many"] (Zb Zdz) := ⟨rfl, rfl, rfl, by decide +kernel, rfl, by decide +kernel, by decide +kernel⟩
abbrev Zbm : Stmt := JF 37
def sc_look_roads : FnScope ["thing", "many", "road"] ["thing"] (Zb Zbm) := ⟨rfl, rfl, rfl, by decide +kernel, rfl, by decide +kernel, by decide +kernel⟩
abbrev Zcb : Stmt := JF 38
def sc_way_from : FnScope ["roads", "k", "way", "place"] ["roads", "k"] (Zb Zcb) := ⟨rfl, rfl, rfl, by decide +kernel, rfl, by decide +kernel, by decide +kernel⟩
abbrev Zad : Stmt := ZbN (JF 39) 0
def ZcF : FnScope ["self", "roads"] ["self", "roads"] (Zb Zad) := ⟨rfl, rfl, rfl, by decide +kernel, rfl, by decide +kernel, by decide +kernel⟩
abbrev Zan : Stmt := ZbN (JF 39) 2
def Zff : FnScope ["self"] ["self"] (Zb Zan) := ⟨rfl, rfl, rfl, by decide +kernel, rfl, by decide +kernel, by decide +kernel⟩
abbrev Zaj : Stmt := ZbN (JF 39) 4
def ZeY : FnScope ["self", "k"] ["self", "k"] (Zb Zaj) := ⟨rfl, rfl, rfl, by decide +kernel, rfl, by decide +kernel, by decide +kernel⟩
abbrev Zaa : Stmt := ZbN (JF 39) 7
def Zbl : FnScope ["self", "k"] ["self", "k"] (Zb Zaa) := ⟨rfl, rfl, rfl, by decide +kernel, rfl, by decide +kernel, by decide +kernel⟩
abbrev Zac : Stmt := ZbN (JF 39) 8
def Zcf : FnScope ["self", "k"] ["self", "k"] (Zb Zac) := ⟨rfl, rfl, rfl, by decide +kernel, rfl, by decide +kernel, by decide +kernel⟩
abbrev Zap : Stmt := ZbN (JF 39) 5
def ZfF : FnScope ["self", "k"] ["self", "k"] (Zb Zap) := ⟨rfl, rfl, rfl, by decide +kernel, rfl, by decide +kernel, by decide +kernel⟩
abbrev Zae : Stmt := ZbN (JF 39) 6
def Zdp : FnScope ["self", "k"] ["self", "k"] (Zb Zae) := ⟨rfl, rfl, rfl, by decide +kernel, rfl, by decide +kernel, by decide +kernel⟩
abbrev ZeU : Stmt := JF 23
def sc_needed : FnScope ["tree", "homes", "group", "roads", "name"] ["tree", "homes", "group"] (Zb ZeU) := ⟨rfl, rfl, rfl, by decide +kernel, rfl, by decide +kernel, by decide +kernel⟩
abbrev Zah : Stmt := JF 24
def Zb9 : FnScope ["tree", "homes"] ["tree", "homes"] (Zb Zah) := ⟨rfl, rfl, rfl, by decide +kernel, rfl, by decide +kernel, by decide +kernel⟩
abbrev Zjy : Stmt := JF 25
def ZnU : FnScope ["tree", "homes", "group"] ["tree", "homes", "group"] (Zb Zjy) := ⟨rfl, rfl, rfl, by decide +kernel, rfl, by decide +kernel, by decide +kernel⟩
abbrev Zbh : Stmt := JF 26
def ZdU : FnScope ["tree", "homes"] ["tree", "homes"] (Zb Zbh) := ⟨rfl, rfl, rfl, by decide +kernel, rfl, by decide +kernel, by decide +kernel⟩
abbrev ZfK : Stmt := JF 27
def sc_users : FnScope ["tree", "homes", "k", "places"] ["tree", "homes", "k"] (Zb ZfK) := ⟨rfl, rfl, rfl, by decide +kernel, rfl, by decide +kernel, by decide +kernel⟩
abbrev Zaf : Stmt := JF 29
def Zdh : FnScope ["tree", "homes", "sharing"] ["tree", "homes", "sharing"] (Zb Zaf) := ⟨rfl, rfl, rfl, by decide +kernel, rfl, by decide +kernel, by decide +kernel⟩
abbrev ZaD : Stmt := JF 30
def sc_judged : FnScope ["tree", "homes", "sharing", "name", "left", "table", "road", "payers", "amount"] ["tree", "homes", "sharing"] (Zb ZaD) := ⟨rfl, rfl, rfl, by decide +kernel, rfl, by decide +kernel, by decide +kernel⟩
abbrev Zeg : Stmt := JF 31
def ZiR : FnScope ["homes", "names"] ["homes", "names"] (Zb Zeg) := ⟨rfl, rfl, rfl, by decide +kernel, rfl, by decide +kernel, by decide +kernel⟩
abbrev Zci : Stmt := JF 32
def sc_payments : FnScope ["price", "payers", "left", "rows", "due", "name", "amount"] ["price", "payers", "left"] (Zb Zci) := ⟨rfl, rfl, rfl, by decide +kernel, rfl, by decide +kernel, by decide +kernel⟩
abbrev Zbc : Stmt := JF 41
def ZdS : FnScope ["_law_script", "_law_k"] ["_law_script", "_law_k"] (Zb Zbc) := ⟨rfl, rfl, rfl, by decide +kernel, rfl, by decide +kernel, by decide +kernel⟩
abbrev ZbS : Stmt := JF 42
def Ze3 : FnScope ["_law_cell", "_law_k"] ["_law_cell", "_law_k"] (Zb ZbS) := ⟨rfl, rfl, rfl, by decide +kernel, rfl, by decide +kernel, by decide +kernel⟩
abbrev Zbg : Stmt := JF 43
def sc_law_numbers : FnScope ["_law_cell", "_law_many", "_law_most", "_law_made", "_law_rest", "_law_k"] ["_law_cell", "_law_many", "_law_most"] (Zb Zbg) := ⟨rfl, rfl, rfl, by decide +kernel, rfl, by decide +kernel, by decide +kernel⟩
abbrev Zdm : Stmt := JF 44
def sc_law_low : FnScope ["_law_top", "_law_bottom", "_law_one", "_law_other"] ["_law_top", "_law_bottom"] (Zb Zdm) := ⟨rfl, rfl, rfl, by decide +kernel, rfl, by decide +kernel, by decide +kernel⟩
abbrev ZaW : Stmt := JF 45
def ZcS : FnScope ["_law_number", "_law_wide"] ["_law_number", "_law_wide"] (Zb ZaW) := ⟨rfl, rfl, rfl, by decide +kernel, rfl, by decide +kernel, by decide +kernel⟩
abbrev Zal : Stmt := JF 46
def sc_law_roads_by : FnScope ["_law_script", "_law_most", "_law_head", "_law_many", "_law_wide", "_law_turned", "_law_k", "_law_number", "_law_other", "_law_roads", "_law_prices", "_law_to"] ["_law_script", "_law_most"] (Zb Zal) := ⟨rfl, rfl, rfl, by decide +kernel, rfl, by decide +kernel, by decide +kernel⟩
abbrev ZaT : Stmt := JF 47
def sc_law_names_by : FnScope ["_law_cell", "_law_many", "_law_some", "_law_word", "_law_rest", "_law_k", "_law_spot", "_law_at", "_law_names", "_law_made", "_law_more"] ["_law_cell", "_law_many"] (Zb ZaT) := ⟨rfl, rfl, rfl, by decide +kernel, rfl, by decide +kernel, by decide +kernel⟩
abbrev ZaV : Stmt := JF 48
def sc_law_homes_by : FnScope ["_law_script", "_law_many", "_law_most", "_law_head", "_law_names", "_law_homes", "_law_name", "_law_number"] ["_law_script", "_law_many", "_law_most"] (Zb ZaV) := ⟨rfl, rfl, rfl, by decide +kernel, rfl, by decide +kernel, by decide +kernel⟩
abbrev Zdc : Stmt := JF 49
def sc_law_way : FnScope ["_law_roads", "_law_k", "_law_way_here"] ["_law_roads", "_law_k"] (Zb Zdc) := ⟨rfl, rfl, rfl, by decide +kernel, rfl, by decide +kernel, by decide +kernel⟩
abbrev Zdb : Stmt := JF 50
def Zhn : FnScope ["_law_one", "_law_other"] ["_law_one", "_law_other"] (Zb Zdb) := ⟨rfl, rfl, rfl, by decide +kernel, rfl, by decide +kernel, by decide +kernel⟩
abbrev ZaI : Stmt := JF 51
def sc_law_shared_by : FnScope ["_law_roads", "_law_homes", "_law_cell", "_law_sharing", "_law_name", "_law_numbers_here", "_law_k", "_law_names", "_law_parts", "_law_part", "_law_price"] ["_law_roads", "_law_homes", "_law_cell"] (Zb ZaI) := ⟨rfl, rfl, rfl, by decide +kernel, rfl, by decide +kernel, by decide +kernel⟩
abbrev Zbu : Stmt := JF 52
def sc_law_spoilt : FnScope ["_law_sharing", "_law_cell", "_law_made", "_law_names", "_law_way_here", "_law_more", "_law_name"] ["_law_sharing", "_law_cell"] (Zb Zbu) := ⟨rfl, rfl, rfl, by decide +kernel, rfl, by decide +kernel, by decide +kernel⟩
abbrev Zai : Stmt := JF 53
def ZeF : FnScope ["_law_tree", "_law_homes", "_law_sharing", "_law_whole"] ["_law_tree", "_law_homes", "_law_sharing", "_law_whole"] (Zb Zai) := ⟨rfl, rfl, rfl, by decide +kernel, rfl, by decide +kernel, by decide +kernel⟩
abbrev Za9 : Stmt := JF 54
def sc_law_refused : FnScope ["_law_tree", "_law_homes", "_law_sharing", "_law_whole", "_law_refused_here", "e", "_law_others"] ["_law_tree", "_law_homes", "_law_sharing", "_law_whole"] (Zb Za9) := ⟨rfl, rfl, rfl, by decide +kernel, rfl, by decide +kernel, by decide +kernel⟩
abbrev Zeo : Stmt := JF 55
def sc_law : FnScope ["_law_script", "_law_roads", "_law_homes", "_law_tree", "_law_sharing", "_law_spoilt_here", "_law_handed", "_law_turn", "_law_whole"] ["_law_script"] (Zb Zeo) := ⟨rfl, rfl, rfl, by decide +kernel, rfl, by decide +kernel, by decide +kernel⟩
def JH {c : TT} {a b : TS} {D : Ends} {Z : St} {H : Hp} (h : ∀ A : St -> Hp -> Prop, A = a D -> ∀ B : St -> Hp -> Prop, B = b D -> c Z H λx H1 => if x = true then A Z H1 else B Z H1) : ZpE c a b D Z H := h _ rfl _ rfl
def ZV {a b : TS} {D : Ends} {Z : St} {H : Hp} (h : ∀ B : St -> Hp -> Prop, B = b D -> a { D with nx := B } Z H) : Zqe a b D Z H := h _ rfl
def isW : V -> Bool
 | .int _ => true
 | _ => false
def Th0 (H : Hp) (x : V) : Prop := ∃ t, JK H x = some t
def ZaC : Sp := λvs H Q _ => ∃ x, vs = [x] /\ Th0 H x /\ Q (.bl (isW x)) H
def ZcY : Sp := λvs H Q _ => ∃ a b : Int, vs = [.int a, .int b] /\ Q (.int (Int.gcd a b)) H
def Za6 (K : PySem.W.Frag) : Sp := λvs H Q _ => ∃ (a : Addr) (ns : List Int) (k : Nat), vs = [.ref a, .int k] /\ SqL K H a (ns.map V.int) /\ Q (.int (cellOf ns k)) H
section
variable {P : Program} {w : World} {K : PySem.W.Frag} {mg : Str -> Option Value} {base : Heap} {f : Addr} {fd : FuncData}
def ZlD {H : Hp} {x : V} {t : String} (e : JK H x = some t) : (isA t "int" && !isA t "bool") = isW x := by
 unfold JK at e
 split at e
 ·cases e; rfl
 ·cases e; rfl
 ·cases e; rfl
 ·cases e; rfl
 ·split at e
  ·cases e; rfl
  ·cases e; rfl
  ·cases e; rfl
  ·cases e
 ·cases e
def Zgr (F : Fun K "is_whole" "is_whole" Zcu f fd) (Zk : mg "isinstance" = none) (Zht : mg "int" = none) (ZjN : mg "bool" = none) :
  FnOk P w K mg base Zx 1 f fd ["thing"] ZaC := by
 refine JN F ZfW (λvs H Q E h => ?_) (λcdv A outer s H vs Q E hr h => ?_)
 ·obtain ⟨x, rfl, _⟩ := h; rfl
 obtain ⟨x, rfl, ⟨t, ht⟩, q⟩ := h
 refine ⟨_, (Zh (Zy (ZfS (Zfn rfl Zk (Zg (Zf 0) (Zg (ZoQ rfl Zht rfl) Za))) (Zjs (ZrE (Zfn rfl Zk (Zg (Zf 0) (Zg (ZoQ rfl ZjN rfl) Za)))))))), ?_⟩
 rw [show Zu ["thing"] [x] = [some (x)] from rfl]
 rw [<- ZlD ht] at q
 refine ⟨_, rfl, x, "int", t, rfl, ht, by decide, _, rfl, ?_⟩
 refine JQ (λc => ?_) (λc => ?_)
 ·refine ⟨_, rfl, x, "bool", t, rfl, ht, by decide, _, rfl, ?_⟩
  rw [c] at q
  exact q
 ·rw [Bool.eq_false_iff.mpr c] at q
  exact q
def Pg (a b : Int) (H : Hp) (Z : St) (H' : Hp) : Prop := ∃ (l m : Int) (r : Option V), Z = [some (.int a), some (.int b), some (.int l), some (.int m), r] /\ H' = H /\ 0 <= l /\ 0 <= m /\ Int.gcd l m = Int.gcd a b
def Zqv (F : Fun K "greatest_divisor" "greatest_divisor" Zau f fd) (Zgg : mg "abs" = none) :
  FnOk P w K mg base Zx 1 f fd ["one", "other"] ZcY := by
 refine JN F sc_greatest_divisor (λvs H Q E h => ?_) (λcdv A outer s H vs Q E hr h => ?_)
 ·obtain ⟨a, b, rfl, _⟩ := h; rfl
 obtain ⟨a, b, rfl, q⟩ := h
 refine ⟨_, (Zd (Zo 2 sc_greatest_divisor.nd (Znr rfl Zgg (Zg (Zf 0) Za)))
   (Zd (Zo 3 sc_greatest_divisor.nd (Znr rfl Zgg (Zg (Zf 1) Za)))
   (Zd (Zem YC (ZoT (Zf 3) Zc) (Zd (Zo 4 sc_greatest_divisor.nd (ZY (Zf 2) (Zf 3)))
   (Zd (Zo 2 sc_greatest_divisor.nd (Zf 3))
   (Zh (Zo 3 sc_greatest_divisor.nd (Zf 4))))))
   (Zh (Zy (Zf 2)))))), ?_⟩
 rw [show Zu ["one", "other", "larger", "smaller", "rest"] [.int a, .int b] = [some (.int a), some (.int b), none, none, none] from rfl]
 walk_at "rd"
 simp only [Zjd]
 refine ZeE (Pg a b H) (λZ _ => (ZlQ Z 3).toNat) ⟨_, _, none, rfl, rfl, by omega, by omega, Zkf a b⟩ ?_
 rintro Z H' ⟨l, m, r, rfl, rfl, hl, hm, hg⟩
 walk_at "rd"
 refine JQ (λc => ?_) (λc => ?_)
 ·have hm' : 0 < m := by omega
  refine ⟨_, λZ' H' z => z, hm', _, ?_, rfl, m, l % m, some (.int (l % m)), rfl, rfl, hm, YT _ (by omega), ?_⟩
  ·exact Zdr hm'
  ·rw [ZgH]; exact hg
 ·have e : m = 0 := by omega
  subst e
  have e2 : (Int.gcd a b : Int) = l := by rw [<- hg]; simp; omega
  rw [e2] at q
  exact q
def Znp (F : Fun K "_law_cell_at" "_law_cell_at" Zbc f fd) (ZA : mg "len" = none) :
  FnOk P w K mg base Zx 1 f fd ["_law_script", "_law_k"] (Za6 K) := by
 refine JN F ZdS (λvs H Q E h => ?_) (λcdv A outer s H vs Q E hr h => ?_)
 ·obtain ⟨a, ns, k, rfl, _⟩ := h; rfl
 obtain ⟨a, ns, k, rfl, hS, q⟩ := h
 refine ⟨_, (Zd (Jo (ZoS (Zf 1) (ZpD rfl ZA (Zg (Zf 0) Za))) (Zh (Zy (Zrc (Zf 0) (Zf 1)))) Je)
   (Zh (Zy (Jg (Znh Zc (Zf 1)) Zc)))), ?_⟩
 rw [show Zu ["_law_script", "_law_k"] [.ref a, .int k] = [some (.ref a), some (.int k)] from rfl]
 walk_at "rd"
 refine ⟨_, .inl hS, ?_⟩
 rw [Yg]
 refine JQ (λc => ?_) (λc => ?_)
 ·exact ⟨_, hS, _, Zov (by omega), q⟩
 ·rw [ZlE (by omega)] at q
  exact q
def Zcr {H : Hp} (i : Int) : Th0 H (.int i) := ⟨"int", rfl⟩
end
def RatV (H : Hp) (x : V) (q : Rat) : Prop := ∃ p, x = .ref p /\ H p = some (.tup [.int q.num, .int (q.den : Int)])
theorem RatV.same {H H' : Hp} {x : V} {q : Rat} (h : RatV H x q) (s : Same H H') : RatV H' x q := by
 obtain ⟨p, e, h⟩ := h
 exact ⟨p, e, s _ _ h⟩
def Big (b : Int) : Prop := b.natAbs < 2 ^ 8000
theorem Big.of {b : Int} {n : Nat} (h : b.natAbs < 2 ^ n) (hn : n <= 8000) : Big b := ZU h hn
def Zdx {t b : Int} (hb : 0 < b) : t.fdiv (Int.gcd t b : Int) = (Rat.divInt t b).num /\ b.fdiv (Int.gcd t b : Int) = ((Rat.divInt t b).den : Int) := by
 have e : ZZ t b = (Int.gcd t b : Int) := by unfold ZZ; rw [if_neg (by omega)]
 have h := ZaJ (t := t) (b := b) (by omega)
 rw [<- e, Zbf (ZaE t b), Zbf (Zaq t b)]
 exact h
def ZbU : Sp := λvs H Q _ => ∃ t b : Int, vs = [.int t, .int b] /\ Big b /\ 0 < b /\ ∀ r H', Same H H' -> RatV H' r (Rat.divInt t b) -> Q r H'
def ZiM {H : Hp} {x y : V} {q : Rat} (hx : RatV H x q) (hy : RatV H y q) : ∃ p c, x = .ref p /\ y = .ref c /\ EqD H x y true 1 := by
 obtain ⟨p, rfl, hp⟩ := hx
 obtain ⟨c, rfl, hc⟩ := hy
 refine ⟨p, c, rfl, rfl, ?_⟩
 have h := EqD.tup (e := λ_ => true) (n := 0) hp hc λj x y h1 h2 => by
  rw [h1] at h2
  cases h2
  match j, h1 with
  | 0, h1 => cases h1; have z := EqD.flat (H := H) (x := .int q.num) (y := .int q.num) rfl rfl; rw [ZcH rfl] at z; exact z
  | 1, h1 => cases h1; have z := EqD.flat (H := H) (x := .int (q.den : Int)) (y := .int (q.den : Int)) rfl rfl; rw [ZcH rfl] at z; exact z
 exact h
def Za2 : Sp := λvs H Q _ => ∃ t b : Int, vs = [.int t, .int b] /\ Big b /\ b ≠ 0 /\ ∀ r H', Same H H' -> RatV H' r (Rat.divInt t b) -> Q r H'
section
variable {P : Program} {w : World} {K : PySem.W.Frag} {mg : Str -> Option Value} {base : Heap} {f : Addr} {fd : FuncData} {dV : Value} {cNF : Addr}
def Zmf (F : FunD K "ratio" "ratio" Ji dV f fd) (ZJ : Fn P w K mg base Zx 1 "is_whole" ["thing"] ZaC) (Zab : Fn P w K mg base Zx 1 "greatest_divisor" ["one", "other"] ZcY) :
  FnOk P w K mg base Zx 2 f fd ["top", "bottom"] Za2 := by
 refine Zr0 F sc_ratio (λvs H Q E h => ?_) (λcdv A outer s H vs Q E hr h => ?_)
 ·obtain ⟨t, b, rfl, _⟩ := h; rfl
 obtain ⟨t, b, rfl, hz, hb0, q⟩ := h
 refine ⟨_, (Zd (Jo (t_w (ZmE (ZdR (Jx (ZB ZJ hr (by decide) rfl (Zg (Zf 0) Za)))) (Zf6 (ZdR (Jx (ZB ZJ hr (by decide) rfl (Zg (Zf 1) Za))))))) (Zh Zbz) Je)
   (Zd (Jo (ZkD (Zf 1) Zc) (Zh Zbz) Je)
   (Zd (Zo 2 sc_ratio.nd (ZB Zab hr (by decide) rfl (Zg (Zf 0) (Zg (Zf 1) Za))))
   (Zd (Jo (ZoS (Zf 1) Zc) (Zh (Zo 2 sc_ratio.nd (Zro (Zf 2)))) Je)
   (Zh (Zy (Js (Zg (Zch (Zf 0) (Zf 2)) (Zg (Zch (Zf 1) (Zf 2)) Za))))))))), ?_⟩
 rw [show Zu ["top", "bottom", "divisor"] [.int t, .int b] = [some (.int t), some (.int b), none] from rfl]
 refine ZV λB hB => ?_
 refine JH λA hA C hC => ?_
 walk_at "rd"
 simp only [ZaC]
 walk_at "rd"
 refine ⟨Zcr _, ?_⟩
 rw [if_neg (by simp [isW])]
 refine ⟨Zcr _, ?_⟩
 rw [if_neg (by simp [isW])]
 subst hC
 walk_at "rd"
 subst hB
 try dsimp only
 refine ZV λB hB => ?_
 refine JH λA hA C hC => ?_
 walk_at "rd"
 refine JQ (λc => absurd c hb0) (λc => ?_)
 subst hC
 walk_at "rd"
 subst hB
 try dsimp only
 walk_at "rd"
 simp only [ZcY]
 walk_at "rd"
 have hne := ZfH (t := t) c
 have hlog : (ZZ t b).natAbs.log2 < 9000 := by rw [ZgI]; exact ZaY (ZU (Yz (Zea c) hz) (by omega)) (by omega)
 have fin : ∀ (p : Addr) (H2 : Hp), H p = none -> Same H H2 -> H2 p = some (.tup [.int (t.fdiv (ZZ t b)), .int (b.fdiv (ZZ t b))]) -> Q (.ref p) H2 := λp H2 _ hs e => q _ _ hs ⟨p, rfl, by
  rw [Zbf (ZaE t b), Zbf (Zaq t b), (ZaJ c).1, (ZaJ (t := t) c).2] at e
  exact e⟩
 refine JQ (λcb => ?_) (λcb => ?_)
 ·have e : ZZ t b = -(Int.gcd t b : Int) := by unfold ZZ; rw [if_pos cb]
  rw [e] at hne hlog fin
  exact ⟨hne, hlog, hne, hlog, fin⟩
 ·have e : ZZ t b = (Int.gcd t b : Int) := by unfold ZZ; rw [if_neg cb]
  rw [e] at hne hlog fin
  exact ⟨hne, hlog, hne, hlog, fin⟩
end
theorem Z4 {n : Nat} {q : Rat} (h : SzQ n q) : (q.den : Int).natAbs < 2 ^ n := by simpa using h.2
def Zkv (qs : List Rat) (i : Nat) : Rat := (qs.take i).foldl (· + ·) 0
def Zdk {qs : List Rat} {i : Nat} {q : Rat} (h : qs[i]? = some q) : Zkv qs (i + 1) = Zkv qs i + q := by
 unfold Zkv
 rw [Yw, h, List.foldl_append]
 rfl
def RatsV (H : Hp) (xs : List V) (qs : List Rat) : Prop := xs.length = qs.length /\ ∀ (i : Nat) x q, xs[i]? = some x -> qs[i]? = some q -> RatV H x q
theorem ZkE {H : Hp} : RatsV H [] [] := ⟨rfl, λi x q h _ => by simp at h⟩
theorem Zee {n : Nat} (h : n ≠ 0) : SzQ n 0 := ⟨VO n, Nat.one_lt_two_pow h⟩
theorem SzQ.add {n m k : Nat} {p q : Rat} (hp : SzQ n p) (hq : SzQ m q) (h : n + m + 1 <= k) : SzQ k (p + q) := by
 rw [Zd9]
 refine SzQ.mono (SzQ.of (n := n + m + 1) (ZdW p q) (ZhU (Zaw hp.1 (Z4 hq)) (Zaw hq.1 (Z4 hp)) (by omega) (by omega)) (ZU (Zaw (Z4 hp) (Z4 hq)) (by omega))) h
def J0 (a b : Nat) : Nat := a / Nat.gcd a b * b
def ZoL {a b : Nat} (ha : 0 < a) : ∃ c d, a = Nat.gcd a b * c /\ b = Nat.gcd a b * d /\ J0 a b = Nat.gcd a b * c * d := by
 have hg : 0 < Nat.gcd a b := Nat.gcd_pos_of_pos_left _ ha
 obtain ⟨c, hc⟩ := Yaz a b
 obtain ⟨d, hd⟩ := Nat.gcd_dvd_right a b
 refine ⟨c, d, hc, hd, ?_⟩
 unfold J0
 have e : a / Nat.gcd a b = c := Nat.div_eq_of_eq_mul_right hg hc
 rw [e]
 conv => lhs; rw [hd]
 rw [<- Nat.mul_assoc, Nat.mul_comm c]
def Zjq {a b : Nat} (ha : 0 < a) : a ∣ J0 a b := by
 obtain ⟨c, d, h1, h2, h3⟩ := ZoL (b := b) ha
 rw [h3]
 conv => lhs; rw [h1]
 exact Yau _ _
theorem ZhW {a b : Nat} (ha : 0 < a) : b ∣ J0 a b := by unfold J0; exact Nat.dvd_mul_left _ _
def Zg5 {a b : Nat} (ha : 0 < a) (hb : 0 < b) : 0 < J0 a b := VZ (Nat.div_pos (Nat.le_of_dvd ha (Yaz a b)) (Nat.gcd_pos_of_pos_left _ ha)) hb
def JZ (qs : List Rat) (i : Nat) : Nat := (qs.take i).foldl (λb q => J0 b q.den) 1
def Zc2 {qs : List Rat} {i : Nat} {q : Rat} (h : qs[i]? = some q) : JZ qs (i + 1) = J0 (JZ qs i) q.den := by
 unfold JZ
 rw [Yw, h, List.foldl_append]
 rfl
def ZeI {qs : List Rat} {n : Nat} (hz : ∀ (i : Nat) q, qs[i]? = some q -> SzQ n q) : ∀ i, i <= qs.length -> 0 < JZ qs i /\ JZ qs i <= 2 ^ (n * i) /\ ∀ (j : Nat) q, j < i -> qs[j]? = some q -> q.den ∣ JZ qs i
 | 0, _ => ⟨Nat.one_pos, Nat.one_le_two_pow, λj q h => absurd h (Yaa j)⟩
 | i + 1, h => by
  obtain ⟨h1, h2, h3⟩ := ZeI hz i (Ys h)
  have hq := Yc h
  rw [Zc2 hq]
  refine ⟨Zg5 h1 qs[i].den_pos, ?_, λj q hj hq2 => ?_⟩
  ·unfold J0
   refine Yh (VR (Yh (YaD _ _) h2) (Ys (hz i _ hq).2)) ?_
   rw [<- Vl, Nat.mul_succ]
   exact Yd _
  ·by_cases c : j = i
   ·subst c
    rw [hq] at hq2
    cases hq2
    exact ZhW h1
   ·exact VU (h3 j q (by omega) hq2) (Zjq h1)
def ZqM (qs : List Rat) : Prop := (∀ (i : Nat) q, qs[i]? = some q -> SzQ 4000 q) /\ ∀ i, i <= qs.length -> JZ qs i <= 2 ^ 4000
def Znm {qs : List Rat} {n : Nat} (hz : ∀ (i : Nat) q, qs[i]? = some q -> SzQ n q) (hn : n * qs.length <= 4000) : ZqM qs :=
 ⟨λi q h => (hz i q h).mono (Yh (Nat.le_mul_of_pos_right _ (Yz (YA _) (Yj.mp h).1)) hn), λi hi => Yh (ZeI hz i hi).2.1 (YU (by decide) (Yh (Nat.mul_le_mul_left _ hi) hn))⟩
def JE (B : Nat) (q : Rat) : Int := q.num * ((B : Int) / (q.den : Int))
def Zdw {B : Nat} {q : Rat} (hB : 0 < B) (h : q.den ∣ B) : Rat.divInt (JE B q) (B : Int) = q := by
 obtain ⟨c, rfl⟩ := h
 have hd := q.den_pos
 have hc : (c : Int) ≠ 0 := by
  intro z
  have : c = 0 := by omega
  rw [this] at hB
  simp at hB
 unfold JE
 rw [YaF, Int.mul_ediv_cancel_left _ (by omega), V3 hc]
 exact Vn q
def ZcP {a b c : Int} (h : c ≠ 0) : Rat.divInt a c + Rat.divInt b c = Rat.divInt (a + b) c := by
 rw [Rat.divInt_add_divInt _ _ h h, <- Int.add_mul, V3 h]
def ZgV {qs : List Rat} {B : Nat} (hB : 0 < B) (hd : ∀ (j : Nat) q, qs[j]? = some q -> q.den ∣ B) : ∀ i, i <= qs.length -> Zkv qs i = Rat.divInt (((qs.take i).map (JE B)).sum) (B : Int)
 | 0, _ => by
  show (0 : Rat) = Rat.divInt 0 (B : Int)
  rw [YaC]
 | i + 1, h => by
  have hq := Yc (show i < qs.length from h)
  rw [Zdk hq, ZgV hB hd i (Ys h), Yw, hq, YW, List.sum_append]
  conv => lhs; rw [<- Zdw hB (hd i _ hq)]
  rw [ZcP (by omega)]
  simp
def Zim : Sp := λvs H Q _ => ∃ a b : Nat, vs = [.int a, .int b] /\ 0 < a /\ 0 < b /\ a <= 2 ^ 4000 /\ b <= 2 ^ 4000 /\ Q (.int (J0 a b : Nat)) H
def Zfu (K : PySem.W.Frag) : Sp := λvs H Q _ => ∃ (a : Addr) (xs : List V) (qs : List Rat), vs = [.ref a] /\ SqL K H a xs /\ RatsV H xs qs /\ ZqM qs /\ Q (.int (JZ qs qs.length : Nat)) H
def ZjH : Sp := λvs H Q _ => ∃ (x : V) (q : Rat) (B : Nat), vs = [x, .int B] /\ RatV H x q /\ SzQ 4000 q /\ B <= 2 ^ 4000 /\ Q (.int (JE B q)) H
def ZcM (K : PySem.W.Frag) : Sp := λvs H Q _ => ∃ (a : Addr) (xs : List V) (qs : List Rat), vs = [.ref a] /\ SqL K H a xs /\ RatsV H xs qs /\ ZqM qs /\ qs.length <= 1000 /\ ∀ r H', Same H H' -> RatV H' r (Zkv qs qs.length) -> Q r H'
def Ze6 {a n : Nat} (h : a <= 2 ^ n) : ((a : Nat) : Int).natAbs < 2 ^ (n + 1) := by
 rw [VJ, Nat.pow_succ]
 have := VO n
 omega
section
variable {P : Program} {w : World} {K : PySem.W.Frag} {mg : Str -> Option Value} {base : Heap} {f : Addr} {fd : FuncData}
def Zpz (F : Fun K "least_multiple" "least_multiple" ZaB f fd) (Zab : Fn P w K mg base Zx 1 "greatest_divisor" ["one", "other"] ZcY) : FnOk P w K mg base Zx 2 f fd ["one", "other"] Zim := by
 refine JN F Zcc (λvs H Q E h => ?_) (λcdv A outer s H vs Q E hr h => ?_)
 ·obtain ⟨a, b, rfl, _⟩ := h; rfl
 obtain ⟨a, b, rfl, ha, hb, za, zb, q⟩ := h
 refine ⟨_, (Zh (Zy (Jj (Zch (Zf 0) (ZB Zab hr (by decide) rfl (Zg (Zf 0) (Zg (Zf 1) Za)))) (Zf 1)))), ?_⟩
 rw [show Zu ["one", "other"] [.int a, .int b] = [some (.int a), some (.int b)] from rfl]
 walk_at "rd"
 simp only [ZcY]
 walk_at "rd"
 have eg : Int.gcd (a : Int) (b : Int) = Nat.gcd a b := rfl
 have hg : 0 < Nat.gcd a b := Nat.gcd_pos_of_pos_left _ ha
 have hga : Nat.gcd a b <= a := Nat.le_of_dvd ha (Yaz a b)
 have ef : (a : Int).fdiv (Int.gcd (a : Int) (b : Int) : Int) = ((a / Nat.gcd a b : Nat) : Int) := by
  rw [eg, Yaj _ (by omega)]
  rfl
 refine ⟨by rw [eg]; omega, ?_, ?_, ?_⟩
 ·rw [eg]
  exact ZaY (ZU (Ze6 (Yh hga za)) (by decide)) (by decide)
 ·rw [ef]
  exact JI (Ze6 (Yh (YaD _ _) za)) (Ze6 zb) (by decide)
 ·rw [ef, <- YaF]
  exact q
def Zsg {a : Addr} {xs : List V} {g : TG} {tb : TS} {D : Ends} {Z : St} {H : Hp} {te : TE} (hv : ∀ R : V -> Hp -> Prop, R (.ref a) H -> te Z H R) (hS : SqL K H a xs) (Pv : Nat -> St -> Hp -> Prop) (h0 : Pv 0 Z H) (hl : ∀ i Z H, i <= xs.length -> Pv i Z H -> SqL K H a xs)
  (hs : ∀ i x Z H, xs[i]? = some x -> Pv i Z H -> g x Z H λZ2 H2 => tb { D with nx := Pv (i + 1), ct := Pv (i + 1), bk := D.nx } Z2 H2) (hd : ∀ Z H, Pv xs.length Z H -> D.nx Z H) : Zks (Zef K te) g tb D Z H :=
 hv _ ⟨a, rfl, ⟨xs, hS⟩, Zgu Pv h0 hl hs hd⟩
def Pcb (a : Addr) (qs : List Rat) (H0 : Hp) (i : Nat) (Z : St) (H : Hp) : Prop := H = H0 /\ ∃ o, Z = [some (.ref a), some (.int (JZ qs i : Nat)), o]
def Zjo (F : Fun K "common_bottom" "common_bottom" ZaH f fd) (ZaA : Fn P w K mg base Zx 2 "least_multiple" ["one", "other"] Zim) : FnOk P w K mg base Zx 3 f fd ["some"] (Zfu K) := by
 refine JN F sc_common_bottom (λvs H Q E h => ?_) (λcdv A outer s H vs Q E hr h => ?_)
 ·obtain ⟨a, xs, qs, rfl, _⟩ := h; rfl
 obtain ⟨a, xs, qs, rfl, hS, hR, hz, q⟩ := h
 refine ⟨_, (Zd (Zo 1 sc_common_bottom.nd Zc)
   (Zd (Jr YC (Ju (Zf 0)) (Zw 2 sc_common_bottom.nd) (Zh (Zo 1 sc_common_bottom.nd (ZB ZaA hr (by decide) rfl (Zg (Zf 1) (Zg (ZI (Zf 2) Zc) Za))))))
   (Zh (Zy (Zf 1))))), ?_⟩
 rw [show Zu ["some", "bottom", "one"] [.ref a] = [some (.ref a), none, none] from rfl]
 walk_at "rd"
 refine Zsg (xs := xs) (λR h => by first | exact ⟨_, rfl, h⟩ | (walk_at "rd"; exact h)) hS (Pcb a qs H) ⟨rfl, _, rfl⟩ (λi Z H' _ h => by rw [h.1]; exact hS) (λi x Z H' hx h => ?_) (λZ H' h => ?_)
 ·obtain ⟨rfl, o, rfl⟩ := h
  have hi : i < qs.length := by rw [<- hR.1]; exact (Yj.mp hx).1
  have hq := Yc hi
  obtain ⟨p, rfl, hp⟩ := hR.2 _ _ _ hx hq
  obtain ⟨h1, _, _⟩ := ZeI hz.1 i (Ys hi)
  have h2 := hz.2 i (Ys hi)
  walk_at "rd"
  simp only [Zim]
  walk_at "rd"
  refine ⟨_, hp, _, rfl, JZ qs i, rfl, qs[i].den, rfl, h1, qs[i].den_pos, h2, Ys (hz.1 i _ hq).2, rfl, some (.ref p), by rw [Zc2 hq]⟩
 ·obtain ⟨rfl, o, rfl⟩ := h
  rw [hR.1]
  walk_at "rd"
  exact q
def Zqy (F : Fun K "top_over" "top_over" Zcs f fd) : FnOk P w K mg base Zx 1 f fd ["one", "bottom"] ZjH := by
 refine JN F Zgi (λvs H Q E h => ?_) (λcdv A outer s H vs Q E hr h => ?_)
 ·obtain ⟨x, q, B, rfl, _⟩ := h; rfl
 obtain ⟨x, t, B, rfl, ⟨p, rfl, hp⟩, z, zB, q⟩ := h
 refine ⟨_, (Zh (Zy (Jj (ZI (Zf 0) Zc) (Zch (Zf 1) (ZI (Zf 0) Zc))))), ?_⟩
 rw [show Zu ["one", "bottom"] [.ref p, .int B] = [some (.ref p), some (.int B)] from rfl]
 walk_at "rd"
 simp only [hp]
 walk_at "rd"
 have hd := t.den_pos
 have ef : (B : Int).fdiv (t.den : Int) = (B : Int) / (t.den : Int) := Yaj _ (by omega)
 have en : (B : Int) / (t.den : Int) = ((B / t.den : Nat) : Int) := rfl
 refine ⟨by omega, ZaY (ZU (Z4 z) (by decide)) (by decide), ?_, ?_⟩
 ·rw [ef, en]
  exact JI z.1 (Ze6 (Yh (YaD _ _) zB)) (by decide)
 ·rw [ef]
  exact q
def ZlV (F : Fun K "total_of" "total_of" Zce f fd) (ZfR : mg "sum" = none) (ZaM : Fn P w K mg base Zx 3 "common_bottom" ["some"] (Zfu K)) (Zcp : Fn P w K mg base Zx 1 "top_over" ["one", "bottom"] ZjH)
  (Zc9 : Fn P w K mg base Zx 2 "ratio" ["top", "bottom"] Za2) : FnOk P w K mg base Zx 4 f fd ["some"] (ZcM K) := by
 refine JN F sc_total_of (λvs H Q E h => ?_) (λcdv A outer s H vs Q E hr h => ?_)
 ·obtain ⟨a, xs, qs, rfl, _⟩ := h; rfl
 obtain ⟨a, xs, qs, rfl, hS, hR, hz, hlen, q⟩ := h
 refine ⟨_, (Zd (Zo 1 sc_total_of.nd (ZB ZaM hr (by decide) rfl (Zg (Zf 0) Za)))
   (Zh (Zy (ZB Zc9 hr (by decide) rfl (Zg (Zjj rfl ZfR (Zg (ZgU (ZlK ["one"] [1] ["bottom"]) (Ju (Zf 0)) (by exact λs H fp => (Zw 0 (show List.Nodup (["one", "bottom"] : List Str) from by decide +kernel))) (by exact λs H fp => (ZB Zcp hr (by decide) rfl (Zg (Zf 0) (Zg (Zf 1) Za))))) Za)) (Zg (Zf 1) Za)))))), ?_⟩
 rw [show Zu ["some", "bottom"] [.ref a] = [some (.ref a), none] from rfl]
 refine ZV λR0 hR0 => ?_
 walk_at "rd"
 refine ⟨a, xs, qs, rfl, hS, hR, hz, ?_⟩
 obtain ⟨b1, b2, b3⟩ := ZeI hz.1 qs.length (Yd _)
 have b4 := hz.2 _ (Yd _)
 have b5 : ∀ (j : Nat) t, qs[j]? = some t -> t.den ∣ JZ qs qs.length := λj t h => b3 j t (Yj.mp h).1 h
 generalize JZ qs qs.length = B at b1 b2 b3 b4 b5
 subst hR0
 try dsimp only
 walk_at "rd"
 simp only [JS, Zef]
 walk_at "rd"
 refine ⟨⟨_, hS⟩, ?_⟩
 rw [show Jn [some (V.ref a), some (V.int (B : Int))] [1] = [some (V.int (B : Int))] from rfl]
 unfold Zod
 refine ZcN (xs := xs) (λacc i ys H' => Same H H' /\ H' acc = some (.lst ys) /\ ys = ((qs.take i).map (JE B)).map V.int /\ i <= qs.length)
  (λacc H2 hn sm e => ⟨sm, e, rfl, YA _⟩) (λacc i ys H2 hn2 ⟨sm, e, ey, hi⟩ => ⟨e, ?_, sm.seq hS⟩) (λacc i y ys H2 os hn2 hi hP ol => ?_) (λacc ys H2 hn2 hP => ?_)
 ·rw [ey, Yg, Yg, Y4]
  omega
 ·obtain ⟨sm, e, ey, _⟩ := hP
  obtain ⟨o, rfl⟩ : ∃ o, os = [o] := by match os, ol with | [o], _ => exact ⟨o, rfl⟩
  have hil : i < qs.length := by rw [<- hR.1]; exact (Yj.mp hi).1
  have hq := Yc hil
  walk_at "rd"
  refine ⟨[some y], rfl, rfl, ?_⟩
  simp only [Zmw]
  walk_at "rd"
  simp only [ZjH]
  walk_at "rd"
  refine ⟨qs[i], B, rfl, (hR.2 _ _ _ hi hq).same sm, hz.1 i _ hq, b4, e, Zr hn2 sm, upd_same, ?_, hil⟩
  rw [ey, Yw, hq, YW, YW]
  rfl
 ·obtain ⟨sm, e, ey, _⟩ := hP
  rw [hR.1, YE] at ey
  rw [ey] at e
  walk_at "rd"
  refine ⟨_, e, ?_⟩
  simp only [Za2]
  walk_at "rd"
  refine ⟨Big.of (Ze6 b4) (by decide), by omega, λr H' hs v => q r H' (sm.trans hs) ?_⟩
  rw [ZgV b1 b5 _ (Yd _), YE]
  exact v
def num_nonneg {t b : Int} (ht : 0 <= t) (hb : 0 < b) : 0 <= (Rat.divInt t b).num := by
 rw [<- (Zdx hb).1]
 exact Int.fdiv_nonneg ht (by omega)
def RoadV (H : Hp) (x : V) (r : Nat × Rat) : Prop := ∃ p y, x = .ref p /\ H p = some (.tup [.int r.1, y]) /\ RatV H y r.2
def RoadsV (H : Hp) (xs : List V) (rs : List (Nat × Rat)) : Prop := xs.length = rs.length /\ ∀ (i : Nat) x r, xs[i]? = some x -> rs[i]? = some r -> RoadV H x r
def ZbJ (rs : List (Nat × Rat)) : Prop := ∃ rank : Nat -> Nat, rank 0 = 0 /\ (∀ v, rank v <= rs.length) /\ ∀ (k : Nat) r, rs[k]? = some r -> r.1 <= rs.length /\ rank r.1 < rank (k + 1)
def ZeL (K : PySem.W.Frag) : Sp := λvs H Q _ => ∃ (a : Addr) (ns : List Int) (m : Int), vs = [.ref a, .int m] /\ SqL K H a (ns.map V.int) /\ 0 <= m /\ m < 20 /\ ∀ p H' xs rs, H p = none -> Same H H' -> H' p = some (.lst xs) -> RoadsV H' xs rs -> ZbJ rs -> rs.length <= 20 -> (∀ r ∈ rs, SzQ 110 r.2 /\ 0 <= r.2.num) -> Q (.ref p) H'
def J2 (lo : Int) (n : Nat) : List Int := (List.range n).map λk : Nat => lo + (k : Int)
theorem ZeD {lo : Int} {n : Nat} : (J2 lo n).length = n := by simp [J2]
theorem ZkJ {lo hi : Int} : Zm3 lo hi = (J2 lo (hi - lo).toNat).map V.int := by simp [Zm3, J2]
def Zhb {lo : Int} {n : Nat} {x : Int} (h : x ∈ J2 lo n) : lo <= x /\ x < lo + n := by
 obtain ⟨k, hk, e⟩ := Yk.mp h
 have := Vg.mp hk
 omega
def Zd7 {lo : Int} {n : Nat} : (J2 lo n).Nodup := by
 refine List.Pairwise.map _ (λa b h => ?_) List.nodup_range
 intro e
 exact h (by omega)
theorem ZgA {n i : Nat} (h : i < n) : ixN n (i : Int) = some i := by
 unfold ixN
 simp
 omega
def Pr (H0 : Hp) (a p pn : Addr) (m c n : Int) (b : Bool) (zs : List V) (i : Nat) (Z : St) (H : Hp) : Prop := ∃ (o1 o2 o3 : Option V) (ts : List Int), Z = [some (.ref a), some (.int m), some (.int c), some (.int n), some (.bl b), some (.ref p), o1, o2, o3, none, none, none] /\
 Same H0 H /\ H p = some (.lst (ts.map V.int)) /\ H pn = some (.lst zs) /\ ts.Perm (J2 1 n.toNat)
theorem Pr.at {H0 : Hp} {a p pn : Addr} {m c n : Int} {b : Bool} {zs : List V} {i : Nat} {Z : St} {H : Hp} (h : Pr H0 a p pn m c n b zs i Z H) : SqL K H pn zs := let ⟨_, _, _, _, _, _, _, e, _⟩ := h; .of e
def ZrN (H : Hp) (ts : List Int) (ys : List V) (j : Nat) : Prop := ∃ (k : Nat) (x : V) (r : Nat × Rat), ts[j]? = some ((k : Int) + 1) /\ ys[k]? = some x /\ RoadV H x r /\ SzQ 110 r.2 /\ 0 <= r.2.num /\ (r.1 = 0 \/ ∃ j', j' < j /\ ts[j']? = some (r.1 : Int))
def Pq (H0 : Hp) (a p acc pp pn : Addr) (m c n : Int) (b : Bool) (ts ps : List Int) (zs : List V) (i : Nat) (Z : St) (H : Hp) : Prop := ∃ (o1 o2 o3 o4 : Option V) (ys : List V), Z = [some (.ref a), some (.int m), some (.int c), some (.int n), some (.bl b), some (.ref p), o1, o2, o3, some (.ref acc), some (.ref pp), o4] /\
 Same H0 H /\ H p = some (.lst (ts.map V.int)) /\ H pp = some (.lst (ps.map V.int)) /\ H pn = some (.lst zs) /\ H acc = some (.lst ys) /\ (ys.length : Int) = n /\ ∀ j, j < i -> ZrN H ts ys j
theorem Pq.at {H0 : Hp} {a p acc pp pn : Addr} {m c n : Int} {b : Bool} {ts ps : List Int} {zs : List V} {i : Nat} {Z : St} {H : Hp} (h : Pq H0 a p acc pp pn m c n b ts ps zs i Z H) : SqL K H pn zs := let ⟨_, _, _, _, _, _, _, _, _, e, _⟩ := h; .of e
theorem RoadV.same {H H' : Hp} {x : V} {r : Nat × Rat} (h : RoadV H x r) (s : Same H H') : RoadV H' x r := let ⟨p, y, e, h1, h2⟩ := h; ⟨p, y, e, s _ _ h1, h2.same s⟩
theorem RoadV.upd {H : Hp} {x : V} {r : Nat × Rat} {l : Addr} {ys : List V} {o : HO} (h : RoadV H x r) (hl : H l = some (.lst ys)) : RoadV (upd H l o) x r := by
 obtain ⟨p, y, e, h1, z, e2, h3⟩ := h
 exact ⟨p, y, e, by rw [Ze (Jc h1 hl (by intro z; cases z))]; exact h1, z, e2, by rw [Ze (Jc h3 hl (by intro z; cases z))]; exact h3⟩
def Zgm {α : Type} [Inhabited α] {n : Nat} {P : Nat -> α -> Prop} (h : ∀ k, k < n -> ∃ r, P k r) : ∃ rs : List α, rs.length = n /\ ∀ (k : Nat) r, rs[k]? = some r -> P k r := by
 induction n with
 | zero => exact ⟨[], rfl, λk r e => by simp at e⟩
 | succ n ih =>
  obtain ⟨rs, hl, hr⟩ := ih λk hk => h k (by omega)
  obtain ⟨r0, h0⟩ := h n (by omega)
  refine ⟨rs ++ [r0], by simp [hl], λk r e => ?_⟩
  by_cases hk : k < rs.length
  ·rw [Va hk] at e; exact hr k r e
  ·rw [YX (by omega)] at e
   have hk2 : k = n := by
    have := (Yj.mp e).1
    simp at this; omega
   subst hk2
   simp [hl] at e
   rw [<- e]; exact h0
open Classical in
noncomputable def rankOf (ts : List Int) (v : Nat) : Nat := if h : ∃ j : Nat, ts[j]? = some (v : Int) then h.choose + 1 else 0
def Zgk {ts : List Int} (hnd : ts.Nodup) {j v : Nat} (h : ts[j]? = some (v : Int)) : rankOf ts v = j + 1 := by
 have hh : ∃ j : Nat, ts[j]? = some (v : Int) := ⟨j, h⟩
 unfold rankOf
 rw [dif_pos hh]
 have e := hh.choose_spec
 have := (List.getElem?_inj (Yj.mp e).1 hnd).mp (e.trans h.symm)
 omega
def ZoG {ts : List Int} {v : Nat} : rankOf ts v <= ts.length := by
 unfold rankOf
 split
 ·rename_i hh
  exact (Yj.mp hh.choose_spec).1
 ·exact YA _
def Zk9 {lo : Int} {n : Nat} {k : Nat} (h : k < n) : lo + (k : Int) ∈ J2 lo n := Yk.mpr ⟨k, Vg.mpr h, rfl⟩
def Zlr {H : Hp} {ts : List Int} {ys : List V} {n : Nat} (hpm : ts.Perm (J2 1 n)) (hy : ys.length = n) (h : ∀ j, j < n -> ZrN H ts ys j) : ∃ rs : List (Nat × Rat), RoadsV H ys rs /\ ZbJ rs /\ rs.length = n /\ ∀ r ∈ rs, SzQ 110 r.2 /\ 0 <= r.2.num := by
 have hl : ts.length = n := by rw [hpm.length_eq, ZeD]
 have hnd : ts.Nodup := hpm.nodup_iff.mpr Zd7
 have hbd : ∀ x ∈ ts, 1 <= x /\ x <= n := λx hx => by have := Zhb (hpm.mem_iff.mp hx); omega
 obtain ⟨rs, hrl, hr⟩ := Zgm (α := Nat × Rat) (n := n) (P := λk r => ∃ x, ys[k]? = some x /\ RoadV H x r /\ SzQ 110 r.2 /\ 0 <= r.2.num /\ ∃ j, ts[j]? = some (((k + 1 : Nat)) : Int) /\ (r.1 = 0 \/ ∃ j', j' < j /\ ts[j']? = some (r.1 : Int))) λk hk => by
  have hm : (1 : Int) + (k : Int) ∈ ts := hpm.mem_iff.mpr (Zk9 hk)
  obtain ⟨j, hj⟩ := Vu hm
  obtain ⟨k', x, r, g1, g2, g3, g4, g5, g6⟩ := h j (by rw [<- hl]; exact (Yj.mp hj).1)
  have hkk : k' = k := by rw [hj] at g1; have := YR g1; omega
  subst hkk
  exact ⟨r, x, g2, g3, g4, g5, j, by rw [g1]; simp, g6⟩
 have rz : rankOf ts 0 = 0 := by
  unfold rankOf
  rw [dif_neg λ⟨j, hj⟩ => by have := hbd _ (List.mem_of_getElem? hj); simp at this]
 refine ⟨rs, ⟨by omega, λi x r h1 h2 => ?_⟩, ⟨rankOf ts, rz, λv => by rw [hrl, <- hl]; exact ZoG, λk r h1 => ?_⟩, hrl, λr hm => ?_⟩
 ·obtain ⟨x', g, g2, _⟩ := hr i r h2
  rw [h1] at g
  cases g
  exact g2
 ·obtain ⟨x', _, _, _, _, j, hj, hc⟩ := hr k r h1
  rcases hc with z | ⟨j', hlt, hj'⟩
  ·exact ⟨by omega, by rw [z, rz, Zgk hnd hj]; omega⟩
  ·have := hbd _ (Yq hj')
   exact ⟨by omega, by rw [Zgk hnd hj', Zgk hnd hj]; omega⟩
 ·obtain ⟨k, hk⟩ := Vu hm
  obtain ⟨_, _, _, g4, g5, _⟩ := hr k r hk
  exact ⟨g4, g5⟩
theorem cxK {CX : CXT} {N : List Str} {qual : Str} {scope : Scope} {cd : Value} {A : Around} {outer : List Env} {s : Shared} {H : Hp} {E : XK} : (JY CX P w K mg base N qual scope f cd A outer s H E).K = K := rfl
inductive WayR (rs : List (Nat × Rat)) : Nat -> List Nat -> Prop where
 | nil : WayR rs 0 []
 | cons {k : Nat} {r : Nat × Rat} {w : List Nat} (h : rs[k]? = some r) (hw : WayR rs r.1 w) : WayR rs (k + 1) ((k + 1) :: w)
def WayR.uniq {rs : List (Nat × Rat)} {k : Nat} {w : List Nat} (h : WayR rs k w) : ∀ {w' : List Nat}, WayR rs k w' -> w' = w := by
 induction h with
 | nil => intro w' h'; cases h'; rfl
 | cons h _ ih =>
  intro w' h'
  cases h' with
  | cons h2 hw2 =>
   rw [h] at h2
   cases h2
   rw [ih hw2]
def Zb4 {rs : List (Nat × Rat)} (T : ZbJ rs) {k : Nat} (hk : k <= rs.length) : ∃ w, WayR rs k w /\ w.length <= rs.length := by
 obtain ⟨rank, r0, hb, hr⟩ := T
 have key : ∀ m k, k <= rs.length -> rank k <= m -> ∃ w, WayR rs k w /\ w.length <= rank k := by
  intro m
  induction m with
  | zero =>
   intro k hk hm
   cases k with
   | zero => exact ⟨[], .nil, YA _⟩
   | succ j =>
    have h2 := (hr j _ (Yc (l := rs) (i := j) (by omega))).2
    omega
  | succ m ih =>
   intro k hk hm
   cases k with
   | zero => exact ⟨[], .nil, YA _⟩
   | succ j =>
    have e := Yc (l := rs) (i := j) (by omega)
    obtain ⟨h1, h2⟩ := hr j _ e
    obtain ⟨w, hw, hl⟩ := ih rs[j].1 h1 (by omega)
    exact ⟨(j + 1) :: w, .cons e hw, by simp; omega⟩
 obtain ⟨w, hw, hl⟩ := key _ k hk (Yd _)
 exact ⟨w, hw, Yh hl (hb k)⟩
theorem WayR.mem {rs : List (Nat × Rat)} {k : Nat} {w : List Nat} (h : WayR rs k w) : ∀ x ∈ w, 1 <= x /\ x <= rs.length := by
 induction h with
 | nil => intro x hx; cases hx
 | cons h _ ih =>
  intro x hx
  rcases Ym.mp hx with z | z
  ·have := (Yj.mp h).1
   omega
  ·exact ih x z
open Classical in
noncomputable def wayM (rs : List (Nat × Rat)) (k : Nat) : Nat := if h : ∃ w, WayR rs k w then h.choose.length else 0
def Zes {rs : List (Nat × Rat)} {k : Nat} {w : List Nat} (h : WayR rs k w) : wayM rs k = w.length := by
 have hh : ∃ w, WayR rs k w := ⟨w, h⟩
 unfold wayM
 rw [dif_pos hh, h.uniq hh.choose_spec]
def ZN (w : List Nat) : List V := w.map λk : Nat => V.int (k : Int)
theorem WayR.zero {rs : List (Nat × Rat)} {w : List Nat} (h : WayR rs 0 w) : w = [] := by cases h; rfl
end
def ZeB : Sp := λvs H Q _ => ∃ c k : Int, vs = [.int c, .int k] /\ 0 <= k /\ k < 1000 /\ ∀ v : Int, Q (.int v) H
def Zat : Sp := λvs H Q _ => ∃ c n m : Int, vs = [.int c, .int n, .int m] /\ 0 <= n /\ n < 1000 /\ 0 < m /\ m.natAbs < 2 ^ 300 /\ ∀ p H' (xs : List Int), H p = none -> Same H H' -> H' p = some (.lst (xs.map V.int)) -> (xs.length : Int) = n -> (∀ x ∈ xs, 0 <= x /\ x < m) -> Q (.ref p) H'
def Pn (H0 : Hp) (p : Addr) (c n m : Int) (i : Nat) (Z : St) (H : Hp) : Prop := ∃ (r : Int) (o : Option V) (xs : List Int), Z = [some (.int c), some (.int n), some (.int m), some (.ref p), some (.int r), o] /\ Same H0 H /\ H p = some (.lst (xs.map V.int)) /\ xs.length = i /\ ∀ x ∈ xs, 0 <= x /\ x < m
section
variable {P : Program} {w : World} {K : PySem.W.Frag} {mg : Str -> Option Value} {base : Heap} {f : Addr} {fd : FuncData}
def ZkH (F : Fun K "_law_mixed" "_law_mixed" ZbS f fd) : FnOk P w K mg base Zx 1 f fd ["_law_cell", "_law_k"] ZeB := by
 refine JN F Ze3 (λvs H Q E h => ?_) (λcdv A outer s H vs Q E hr h => ?_)
 ·obtain ⟨c, k, rfl, _⟩ := h; rfl
 obtain ⟨c, k, rfl, h1, h2, q⟩ := h
 refine ⟨_, (Zh (Zy (Jg (Znh (Jg (ZY (Zf 0) (Zh8 Zc Zc)) (Jj (Zf 1) (Zf 1))) Zc) (Znh (Jg (Zf 1) Zc) Zc)))), ?_⟩
 rw [show Zu ["_law_cell", "_law_k"] [.int c, .int k] = [some (.int c), some (.int k)] from rfl]
 walk_at "rd"
 exact ⟨JI (a := 10) (b := 10) (by omega) (by omega) (by decide), q _⟩
def Zhr (F : Fun K "_law_numbers" "_law_numbers" Zbg f fd) (ZK : mg "range" = none) (ZbT : Fn P w K mg base Zx 1 "_law_mixed" ["_law_cell", "_law_k"] ZeB) : FnOk P w K mg base Zx 2 f fd ["_law_cell", "_law_many", "_law_most"] Zat := by
 refine JN F sc_law_numbers (λvs H Q E h => ?_) (λcdv A outer s H vs Q E hr h => ?_)
 ·obtain ⟨c, n, m, rfl, _⟩ := h; rfl
 obtain ⟨c, n, m, rfl, h1, h2, h3, h4, q⟩ := h
 refine ⟨_, (Zd (Zo 3 sc_law_numbers.nd (JJ Za))
   (Zd (Zo 4 sc_law_numbers.nd (Zf 0))
   (Zd (Jr YC (ZdB rfl ZK (Zg (Zf 1) Za)) (Zw 5 sc_law_numbers.nd) (Zh (Jo (ZoS (Zf 0) (Zh8 Zc Zc)) (Zh (Ja (Zed (Zf 3) (Zg (ZY (Jk (ZB ZbT hr (by decide) rfl (Zg (Zf 0) (Zg (Zf 5) Za))) Zc) (Zf 2)) Za)))) (Zd (Ja (Zed (Zf 3) (Zg (ZY (Zf 4) (Zf 2)) Za)))
   (Zh (Zo 4 sc_law_numbers.nd (ZfY (Zf 4) (Zf 2))))))))
   (Zh (Zy (Zf 3)))))), ?_⟩
 rw [show Zu ["_law_cell", "_law_many", "_law_most", "_law_made", "_law_rest", "_law_k"] [.int c, .int n, .int m] = [some (.int c), some (.int n), some (.int m), none, none, none] from rfl]
 walk_at "rd"
 intro p H1 hp s1 e1
 simp only [Zb3]
 walk_at "rd"
 refine ⟨by omega, by omega, ?_⟩
 refine ZcV (Pn H p c n m) ⟨_, _, [], rfl, s1, e1, rfl, λx hx => by cases hx⟩ (λi Z H2 hi hP => ?_) (λZ H2 hP => ?_)
 ·obtain ⟨r, o, xs, rfl, s2, e2, hl, hx⟩ := hP
  walk_at "rd"
  simp only [ZeB]
  walk_at "rd"
  have step : ∀ r' v : Int, 0 <= v -> v < m -> Pn H p c n m (i + 1) [some (V.int c), some (V.int n), some (V.int m), some (V.ref p), some (V.int r'), some (V.int (i : Int))] (upd H2 p (.lst (xs.map V.int ++ [.int v]))) := λr' v a b =>
   ⟨r', _, xs ++ [v], rfl, Zr hp s2, by rw [upd_same, List.map_append]; rfl, by simp [hl], λx hm => by
    rcases Yu.mp hm with z | z
    ·exact hx x z
    ·have z : x = v := by simpa using z
     rw [z]; exact ⟨a, b⟩⟩
  have hlen : (xs.map V.int).length < 1000000 := by rw [Yg]; omega
  refine JQ (λ_ => ?_) (λ_ => ?_)
  ·exact ⟨⟨_, e2⟩, by omega, by omega, λv => ⟨h3, _, e2, hlen, step _ _ (YT _ (by omega)) (Y1 _ h3)⟩⟩
  ·exact ⟨⟨_, e2⟩, h3, _, e2, hlen, h3, ZaY (ZU h4 (by omega)) (by omega), step _ _ (YT _ (by omega)) (Y1 _ h3)⟩
 ·obtain ⟨r, o, xs, rfl, s2, e2, hl, hx⟩ := hP
  walk_at "rd"
  exact q p H2 xs hp s2 e2 (by omega) hx
def Pl (a b : Int) (H : Hp) (Z : St) (H' : Hp) : Prop := ∃ l m : Int, Z = [some (.int a), some (.int b), some (.int l), some (.int m)] /\ H' = H /\ 0 <= l /\ 0 <= m /\ Int.gcd l m = Int.gcd a b
def ZoC (F : Fun K "_law_low" "_law_low" Zdm f fd) (Zgg : mg "abs" = none) : FnOk P w K mg base Zx 1 f fd ["_law_top", "_law_bottom"] ZbU := by
 refine JN F sc_law_low (λvs H Q E h => ?_) (λcdv A outer s H vs Q E hr h => ?_)
 ·obtain ⟨a, b, rfl, _⟩ := h; rfl
 obtain ⟨a, b, rfl, hz, hb, q⟩ := h
 refine ⟨_, (Zd (Zo 2 sc_law_low.nd (Znr rfl Zgg (Zg (Zf 0) Za)))
   (Zd (Zo 3 sc_law_low.nd (Zf 1))
   (Zd (Zem YC (ZrH (Zf 3) Zc) (Zh (Zrx 2 3 sc_law_low.nd (Zg (Zf 3) (Zg (ZY (Zf 2) (Zf 3)) Za)))))
   (Zh (Zy (Js (Zg (Zch (Zf 0) (Zf 2)) (Zg (Zch (Zf 1) (Zf 2)) Za)))))))), ?_⟩
 rw [show Zu ["_law_top", "_law_bottom", "_law_one", "_law_other"] [.int a, .int b] = [some (.int a), some (.int b), none, none] from rfl]
 walk_at "rd"
 simp only [Zjd]
 refine ZeE (Pl a b H) (λZ _ => (ZlQ Z 3).toNat) ⟨_, _, rfl, rfl, by omega, by omega, by rw [<- Zkf a b, Int.natAbs_of_nonneg (Int.le_of_lt hb)]⟩ ?_
 rintro Z H' ⟨l, m, rfl, rfl, hl, hm, hg⟩
 walk_at "rd"
 refine JQ (λc => ?_) (λc => ?_)
 ·refine ⟨_, λZ' H' z => z, c, _, Zdr c, rfl, m, l % m, rfl, rfl, hm, YT _ (by omega), ?_⟩
  rw [ZgH]; exact hg
 ·have e : m = 0 := by omega
  subst e
  have e2 : l = (Int.gcd a b : Int) := by rw [<- hg]; simp; omega
  subst e2
  have h1 := Yai a (Int.ne_of_gt hb)
  have h3 : (Int.gcd a b : Int).natAbs.log2 < 9000 := ZaY (ZU (Yz (Zea (Int.ne_of_gt hb)) hz) (by omega)) (by omega)
  refine ⟨by omega, h3, by omega, h3, λp H' _ hs e => q _ H' hs ⟨p, rfl, ?_⟩⟩
  rw [(Zdx hb).1, (Zdx (t := a) hb).2] at e
  exact e
def ZeK : Sp := λvs H Q _ => ∃ (c : Int) (b : Bool), vs = [.int c, .bl b] /\ ∀ r H' q, Same H H' -> SzQ 110 q -> 0 <= q.num -> RatV H' r q -> Q r H'
def Zlk (F : Fun K "_law_price_by" "_law_price_by" ZaW f fd) (ZW : Fn P w K mg base Zx 1 "_law_low" ["_law_top", "_law_bottom"] ZbU) : FnOk P w K mg base Zx 2 f fd ["_law_number", "_law_wide"] ZeK := by
 refine JN F ZcS (λvs H Q E h => ?_) (λcdv A outer s H vs Q E hr h => ?_)
 ·obtain ⟨c, b, rfl, _⟩ := h; rfl
 obtain ⟨c, b, rfl, q⟩ := h
 refine ⟨_, (Zd (Jo (Jx (Zf 1)) (Zh (Zy (ZB ZW hr (by decide) rfl (Zg (ZY (Zf 0) (Zh8 Zc Zc)) (Zg (Jg Zc (ZY (ZfY (Zf 0) (Zh8 Zc Zc)) (JT (Zh8 Zc Zc) Zc))) Za))))) Je)
   (Zh (Zy (ZB ZW hr (by decide) rfl (Zg (ZY (Zf 0) Zc) (Zg (Jg Zc (ZY (Jk (Zf 0) Zc) Zc)) Za)))))), ?_⟩
 rw [show Zu ["_law_number", "_law_wide"] [.int c, .bl b] = [some (.int c), some (.bl b)] from rfl]
 walk_at "rd"
 simp only [ZbU]
 walk_at "rd"
 have fin : ∀ t d : Int, 0 <= t -> t.natAbs < 2 ^ 110 -> 0 < d -> d.natAbs < 2 ^ 110 -> Big d /\ 0 < d /\ ∀ (r : V) (H' : Hp), Same H H' -> RatV H' r (Rat.divInt t d) -> Q r H' := λt d h1 h2 h3 h4 =>
  ⟨Big.of h4 (by decide), h3, λr H' s v => q r H' _ s (SzQ.of (by omega) h2 h4) (num_nonneg h1 h3) v⟩
 refine JQ (λ_ => ?_) (λ_ => ?_)
 ·exact ⟨by decide, fin _ _ (by omega) (by omega) (by omega) (by omega)⟩
 ·exact fin _ _ (by omega) (by omega) (by omega) (by omega)
def ZlZ (F : Fun K "_law_roads_by" "_law_roads_by" Zal f fd) (ZH : mg "list" = none) (ZK : mg "range" = none) (Za4 : mg "enumerate" = none) (Zht : mg "int" = none) (Zm6 : mg "min" = none)
  (Zv : Fn P w K mg base Zx 1 "_law_cell_at" ["_law_script", "_law_k"] (Za6 K)) (ZE : Fn P w K mg base Zx 2 "_law_numbers" ["_law_cell", "_law_many", "_law_most"] Zat) (ZaR : Fn P w K mg base Zx 2 "_law_price_by" ["_law_number", "_law_wide"] ZeK) : FnOk P w K mg base Zx 3 f fd ["_law_script", "_law_most"] (ZeL K) := by
 refine JN F sc_law_roads_by (λvs H Q E h => ?_) (λcdv A outer s H vs Q E hr h => ?_)
 ·obtain ⟨a, ns, m, rfl, _⟩ := h; rfl
 obtain ⟨a, ns, m, rfl, hS, hm0, hm1, q⟩ := h
 obtain ⟨t2, ht2, hr2⟩ : ∃ t, QB (JY Zx P w K mg base ["_law_script", "_law_most", "_law_head", "_law_many", "_law_wide", "_law_turned", "_law_k", "_law_number", "_law_other", "_law_roads", "_law_prices", "_law_to"] "_law_roads_by" (Zb Zal) f cdv A outer s H E).nox ((Zq Zal).drop 6) t /\ ∀ (c n : Int) (b : Bool) (p : Addr) (o1 o2 o3 : Option V) (ts : List Int) (H1 : Hp), 0 <= n -> n <= 20 -> H p = none -> Same H H1 -> H1 p = some (.lst (ts.map V.int)) -> ts.Perm (J2 1 n.toNat) ->
   t { nx := λ_ H' => Q .non H', rt := Q } [some (.ref a), some (.int m), some (.int c), some (.int n), some (.bl b), some (.ref p), o1, o2, o3, none, none, none] H1 := by
  refine ⟨_, (Zd (Zdq 9 (ZrQ ["_law_k"]) (ZdB rfl ZK (Zg (Zf 3) Za)) (by exact λs H fp => (Zw 0 (show List.Nodup (["_law_k"] : List Str) from by decide +kernel))) (by exact λs H fp => (Js (Zg Zc (Zg (Js (Zg Zc (Zg Zc Za))) Za)))) (Zw 9 sc_law_roads_by.nd))
   (Zd (Zo 10 sc_law_roads_by.nd (ZB ZE hr (by decide) rfl (Zg (ZB Zv hr (by decide) rfl (Zg (Zf 0) (Zg Zc Za))) (Zg (Zf 3) (Zg (Jz (JJ (Zg Zc (Zg (Zh8 Zc Zc) Za))) (Zqn rfl Zht (Zg (Zf 4) Za))) Za)))))
   (Zd (Jr YC (ZmN rfl Za4 (Zg (ZB ZE hr (by decide) rfl (Zg (ZB Zv hr (by decide) rfl (Zg (Zf 0) (Zg Zc Za))) (Zg (Zf 3) (Zg Zc Za)))) Za)) (Zhz (n := 2) (Jh (Zw 6 sc_law_roads_by.nd) (Jh (Zw 7 sc_law_roads_by.nd) Zd6))) (Zd (Zo 11 sc_law_roads_by.nd (Jz (ZqY (JJ (Zg Zc Za)) (Zf 5)) (JT (Zf 6) (ZY (Zf 7) (Zq8 rfl Zm6 (Zg (Jg (Zf 6) Zc) (Zg (Jg Zc (ZY (Jk (Zf 7) Zc) Zc)) Za)))))))
   (Zh (Zof (Js (Zg (Zf 11) (Zg (ZB ZaR hr (by decide) rfl (Zg (Jz (Zf 10) (Zf 6)) (Zg (Zf 4) Za))) Za))) (Zlu (Zf 9) (JT (Jz (Zf 5) (Zf 6)) Zc))))))
   (Zh (Zy (Zf 9)))))), λc n b p o1 o2 o3 ts H1 hn0 hn1 hp s1 e1 hpm => ?_⟩
  walk_at "rd"
  simp only [JS, Zh0, cxK]
  walk_at "rd"
  refine ⟨by omega, by omega, ?_⟩
  refine Zki (λacc i ys H' => H acc = none /\ Same H H' /\ p ≠ acc /\ H' p = some (.lst (ts.map V.int)) /\ H' acc = some (.lst ys) /\ ys.length = i /\ i <= 20) (λacc H2 hn sm e => ⟨s1.free hn, s1.trans sm, λz => ?_, sm _ _ e1, e, rfl, by omega⟩)
   (λacc i ys H2 h => ⟨h.2.2.2.2.1, by omega⟩) (λacc i ys H2 os hn hi h ol => ?_) (λacc ys H2 hn h => ?_)
  ·rw [<- z, e1] at hn; cases hn
  ·obtain ⟨h0, sm, hne, hp2, ha, hy, _⟩ := h
   obtain ⟨o, rfl⟩ : ∃ o, os = [o] := List.length_eq_one_iff.mp ol
   walk_at "rd"
   exact ⟨[_], rfl, rfl, λp1 H3 _ s3 _ p2 H4 _ s4 _ => ⟨s4 _ _ (s3 _ _ ha), h0, Zr h0 (sm.trans (s3.trans s4)), hne, by rw [Ze hne]; exact s4 _ _ (s3 _ _ hp2), upd_same, by simp [hy], by omega⟩⟩
  ·obtain ⟨h0, sm, hne, hp2, ha, hy, _⟩ := h
   simp only [Za6, Zat, Zfz]
   walk_at "rd"
   obtain ⟨mo, hmo, hat⟩ : ∃ mo : Int, (mo = 78 \/ mo = 1000000000000000000000000000000000000000000000000000000000000) /\ atI [V.int 78, V.int 1000000000000000000000000000000000000000000000000000000000000] (if b = true then 1 else 0) = some (.int mo) := by
    cases b
    ·exact ⟨_, .inl rfl, rfl⟩
    ·exact ⟨_, .inr rfl, rfl⟩
   refine ⟨⟨3, rfl⟩, ⟨ns, sm.seq hS⟩, λpm H3 _ s3 e3 => ⟨_, e3, _, hat, mo, rfl, hn0, by omega, by omega, ZU (a := 200) (by omega) (by decide), λpp H4 ps hpp s4 e4 hl4 _ => ?_⟩⟩
   simp only [Za6, Zat]
   walk_at "rd"
   refine ⟨⟨2, rfl⟩, ⟨ns, (sm.trans (s3.trans s4)).seq hS⟩, hn0, by omega, ZU (a := 20) (by decide) (by decide), λpn H5 xs hpn s5 e5 hl5 hx5 => ?_⟩
   have ha4 := s4 _ _ (s3 _ _ ha)
   have hpa : pp ≠ acc := λz => by rw [z, s3 _ _ ha] at hpp; cases hpp
   have hna : pn ≠ acc := λz => by rw [z, ha4] at hpn; cases hpn
   have hl : (ts.length : Int) = n := by rw [hpm.length_eq, ZeD]; omega
   have hbd : ∀ x ∈ ts, 1 <= x /\ x <= n := λx hx => by have := Zhb (hpm.mem_iff.mp hx); omega
   have hnd : ts.Nodup := hpm.nodup_iff.mpr Zd7
   refine Zha (xs := xs.map V.int) (Pq H a p acc pp pn m c n b ts ps (xs.map V.int)) ⟨_, _, _, _, ys, rfl, sm.trans (s3.trans (s4.trans s5)), s5 _ _ (s4 _ _ (s3 _ _ hp2)), s5 _ _ e4, e5, s5 _ _ ha4, by omega, λj hj => absurd hj (Yaa j)⟩ (λi Z H' _ h => h.at) (λi x Z H6 pb H7 hx hP hb s7 e7 => ?_) (λZ H6 hP => ?_)
   ·obtain ⟨o1, o2, o3, o4, ys, rfl, sm6, et, ep, en, ea, hyl, hdone⟩ := hP
    have hi : i < xs.length := by have := (List.getElem?_eq_some_iff.mp hx).1; simpa using this
    have hxi : x = .int xs[i] := by rw [Yi, Yc hi] at hx; exact (YR hx).symm
    subst hxi
    walk_at "rd"
    simp only [e7, ZeK]
    walk_at "rd"
    have hv := hx5 xs[i] (YI hi)
    have hlt : i < ts.length := by omega
    have hM1 : 0 < (if 1 + xs[i] / 41 % 41 < (i : Int) + 1 then 1 + xs[i] / 41 % 41 else (i : Int) + 1) /\ (if 1 + xs[i] / 41 % 41 < (i : Int) + 1 then 1 + xs[i] / 41 % 41 else (i : Int) + 1) <= (i : Int) + 1 := by split <;> omega
    generalize (if 1 + xs[i] / 41 % 41 < (i : Int) + 1 then 1 + xs[i] / 41 % 41 else (i : Int) + 1) = M at hM1 ⊢
    have hq0 := YT xs[i] (b := M) (by omega)
    have hq1 := Y1 xs[i] (b := M) hM1.1
    obtain ⟨e, he⟩ : ∃ e : Nat, (i : Int) - xs[i] % M = (e : Int) := ⟨((i : Int) - xs[i] % M).toNat, by omega⟩
    simp only [he]
    obtain ⟨to, hat2, hto⟩ : ∃ to : Nat, atI ([V.int 0] ++ ts.map V.int) (e : Int) = some (.int (to : Int)) /\ (to = 0 \/ ∃ j', j' < i /\ ts[j']? = some (to : Int)) := by
     cases e with
     | zero => exact ⟨0, ZP (by simp), .inl rfl⟩
     | succ e =>
      have he' : e < ts.length := by omega
      have hb1 := hbd ts[e] (YI he')
      have h3 : ((ts[e].toNat : Nat) : Int) = ts[e] := V5 (by omega)
      exact ⟨ts[e].toNat, ZP (by rw [h3]; simp [he']), .inr ⟨e, by omega, by rw [h3, List.getElem?_eq_getElem he']⟩⟩
    have hbi := hbd ts[i] (YI hlt)
    obtain ⟨k, hk⟩ : ∃ k : Nat, ts[i] = (k : Int) + 1 := ⟨(ts[i] - 1).toNat, by omega⟩
    have hip : i < ps.length := by omega
    refine λp8 H8 h8 s8 e8 => ⟨_, e8, _, s8 _ _ (s7 _ _ et), Zd3 (by simp; omega), λp9 hp9 => ⟨hM1.1, _, upd_same, _, hat2, _, ZG hp9 _ _ _ (s8 _ _ (s7 _ _ ep)), .int ps[i], ZP (by simp [hip]), ⟨_, rfl⟩, λr H10 qr s10 zq hqn vr p11 H11 h11 s11 e11 => ?_⟩⟩
    have S : Same H6 H11 := s7.trans (s8.trans ((ZG hp9 _).trans (s10.trans s11)))
    have ea11 := S _ _ ea
    refine ⟨_, S _ _ et, .int ts[i], ZP (by simp [hlt]), _, rfl, ys, ea11, k, ?_, ?_⟩
    ·rw [hk, Int.add_sub_cancel]; exact ZgA (by omega)
    ·refine ⟨_, _, _, _, ys.set k (.ref p11), rfl, Zr h0 (sm6.trans S), by rw [Ze hne]; exact S _ _ et, by rw [Ze hpa]; exact S _ _ ep, by rw [Ze hna]; exact S _ _ en, upd_same, by simpa using hyl, λj hj => ?_⟩
     by_cases hji : j = i
     ·subst hji
      exact ⟨k, .ref p11, (to, qr), by rw [Yc hlt, hk], Yao (by omega), RoadV.upd ⟨p11, r, rfl, e11, vr.same s11⟩ ea11, zq, hqn, hto⟩
     ·obtain ⟨k', x, r', g1, g2, g3, g4, g5, g6⟩ := hdone j (by omega)
      have hkk : k ≠ k' := λz => by
       have g7 : ts[j]? = ts[i]? := by rw [g1, Yc hlt, hk, z]
       have hjl : j < ts.length := (Yj.mp g1).1
       exact hji ((List.getElem?_inj hjl hnd).mp g7)
      exact ⟨k', x, r', g1, by rw [Yaq hkk]; exact g2, (g3.same S).upd ea11, g4, g5, g6⟩
   ·obtain ⟨o1, o2, o3, o4, ys, rfl, sm6, et, ep, en, ea, hyl, hdone⟩ := hP
    walk_at "rd"
    obtain ⟨rs, hR, hT, hlen, hz⟩ := Zlr (n := n.toNat) hpm (by omega) λj hj => hdone j (by rw [Yg]; omega)
    exact q acc H6 ys rs h0 sm6 ea hR hT (by omega) hz
 obtain ⟨t1, ht1, hr1⟩ : ∃ t, QB (JY Zx P w K mg base ["_law_script", "_law_most", "_law_head", "_law_many", "_law_wide", "_law_turned", "_law_k", "_law_number", "_law_other", "_law_roads", "_law_prices", "_law_to"] "_law_roads_by" (Zb Zal) f cdv A outer s H E).nox ((Zq Zal).drop 4) t /\ ∀ (c n : Int) (b : Bool), 0 <= n -> n <= 20 ->
   t { nx := λ_ H' => Q .non H', rt := Q } [some (.ref a), some (.int m), some (.int c), some (.int n), some (.bl b), none, none, none, none, none, none, none] H := by
  refine ⟨_, (Zd (Zo 5 sc_law_roads_by.nd (ZfD rfl ZH (Zg (ZpW rfl ZK (Zg Zc (Zg (Jg (Zf 3) Zc) Za))) Za)))
   (Zd (Jr YC (ZmN rfl Za4 (Zg (ZB ZE hr (by decide) rfl (Zg (ZB Zv hr (by decide) rfl (Zg (Zf 0) (Zg Zc Za))) (Zg (Zf 3) (Zg Zc Za)))) Za)) (Zhz (n := 2) (Jh (Zw 6 sc_law_roads_by.nd) (Jh (Zw 7 sc_law_roads_by.nd) Zd6))) (Zd (Zo 8 sc_law_roads_by.nd (ZY (Zf 7) (Jg (Zf 6) Zc)))
   (Zh (Zof (Js (Zg (Jz (Zf 5) (Zf 8)) (Zg (Jz (Zf 5) (Zf 6)) Za))) (Zhz (n := 2) (Jh (Zlu (Zf 5) (Zf 6)) (Jh (Zlu (Zf 5) (Zf 8)) Zd6)))))))
   ht2)), λc n b hn0 hn1 => ?_⟩
  walk_at "rd"
  simp only [Zna, Zh6, cxK, Zfz]
  walk_at "rd"
  simp only [Za6, Zat]
  walk_at "rd"
  intro pr H1 hpr s1 e1
  refine ⟨_, .inr (.inr ⟨1, n + 1, e1, by decide, by decide, by omega, by omega, rfl, by omega⟩), λp H2 hp s2 e2 => ?_⟩
  have hpH : H p = none := s1.free hp
  refine ⟨⟨1, rfl⟩, ⟨ns, (s1.trans s2).seq hS⟩, hn0, by omega, ZU (a := 6) (by decide) (by decide), λpn H3 xs hpn s3 e3 hl3 hx3 => ?_⟩
  have hne : pn ≠ p := λz => by rw [z, e2] at hpn; cases hpn
  refine Zha (xs := xs.map V.int) (Pr H a p pn m c n b (xs.map V.int)) ⟨_, _, _, J2 1 n.toNat, rfl, s1.trans (s2.trans s3), ?_, e3, .refl _⟩ (λi Z H' _ h => h.at) (λi x Z H4 pb H5 hx hP hb s5 e5 => ?_) (λZ H4 hP => ?_)
  ·rw [s3 _ _ e2, ZkJ]
   congr 4
   omega
  ·obtain ⟨o1, o2, o3, ts, rfl, sm, e, ep, hpm⟩ := hP
   have hl : (ts.length : Int) = n := by rw [hpm.length_eq, ZeD]; omega
   have hi : i < xs.length := by have := (List.getElem?_eq_some_iff.mp hx).1; simpa using this
   have hxi : x = .int xs[i] := by rw [Yi, Yc hi] at hx; exact (YR hx).symm
   subst hxi
   walk_at "rd"
   simp only [e5]
   walk_at "rd"
   have hlt : i < ts.length := by omega
   have hq0 := YT xs[i] (b := (i : Int) + 1) (by omega)
   have hq1 := Y1 xs[i] (b := (i : Int) + 1) (by omega)
   obtain ⟨j, hj⟩ : ∃ j : Nat, xs[i] % ((i : Int) + 1) = (j : Int) := ⟨_, (V5 hq0).symm⟩
   simp only [hj] at hq0 hq1 ⊢
   have hjl : j < ts.length := by omega
   have at5 := s5 _ _ e
   refine ⟨by omega, _, at5, .int ts[j], ZP (by simp [hjl]), _, at5, .int ts[i], ZP (by simp [hlt]), λpt H6 hpt s6 e6 => ⟨_, e6, rfl, _, _, rfl, _, s6 _ _ at5, i, ZgA (by simp [hlt]), _, _, rfl, _, upd_same, j, ZgA (by simp [hjl]), rfl, ?_⟩⟩
   have pm := List.set_set_perm (as := ts) hlt hjl
   refine ⟨_, _, _, (ts.set i ts[j]).set j ts[i], rfl, Zr hpH (Zr hpH (sm.trans (s5.trans s6))), by rw [upd_same, List.map_set, List.map_set], by rw [Ze hne, Ze hne]; exact s6 _ _ (s5 _ _ ep), pm.trans hpm⟩
  ·obtain ⟨o1, o2, o3, ts, rfl, sm, e, _, hpm⟩ := hP
   exact hr2 c n b p o1 o2 o3 ts H4 hn0 hn1 hpH sm e hpm
 refine ⟨_, (Zd (Zo 2 sc_law_roads_by.nd (ZB Zv hr (by decide) rfl (Zg (Zf 0) (Zg Zc Za))))
   (Zd (Zo 3 sc_law_roads_by.nd (ZY (Zf 2) (Jg (Zf 1) Zc)))
   (Zd (Zo 4 sc_law_roads_by.nd (ZrR (ZY (Jk (Zf 2) Zc) Zc) Zc))
   (Zd (Jo (Jx (Zf 4)) (Zh (Zo 3 sc_law_roads_by.nd (ZY (Zf 3) Zc))) (Zh (Jo (ZkD (ZY (Jk (Zf 2) Zc) Zc) Zc) (Zh (Zo 3 sc_law_roads_by.nd (ZY (Jk (Zf 2) Zc) Zc))) Je)))
   ht1)))), ?_⟩
 rw [show Zu ["_law_script", "_law_most", "_law_head", "_law_many", "_law_wide", "_law_turned", "_law_k", "_law_number", "_law_other", "_law_roads", "_law_prices", "_law_to"] [.ref a, .int m] = [some (.ref a), some (.int m), none, none, none, none, none, none, none, none, none, none] from rfl]
 walk_at "rd"
 simp only [Za6]
 walk_at "rd"
 refine ⟨ns, 0, rfl, hS, by omega, ?_⟩
 have h9 := YT (cellOf ns 0) (b := m + 1) (by omega)
 have h8 := Y1 (cellOf ns 0) (b := m + 1) (by omega)
 refine JQ (λc => ?_) (λc => ?_)
 ·exact hr1 _ _ _ (by omega) (by omega)
 ·refine JQ (λc2 => ?_) (λc2 => ?_)
  ·exact hr1 _ _ _ (by omega) (by omega)
  ·exact hr1 _ _ _ (by omega) (by omega)
def Zm2 : Sp := λvs H Q _ => ∃ (a : Addr) (xs : List V) (rs : List (Nat × Rat)) (k : Nat) (w : List Nat), vs = [.ref a, .int k] /\ H a = some (.lst xs) /\ RoadsV H xs rs /\ WayR rs k w /\ w.length <= 1000 /\ ∀ p H', H p = none -> Same H H' -> H' p = some (.lst (ZN w)) -> Q (.ref p) H'
def Pw (H0 : Hp) (a p : Addr) (rs : List (Nat × Rat)) (w0 : List Nat) (Z : St) (H : Hp) : Prop := ∃ (k : Nat) (pre w : List Nat), Z = [some (.ref a), some (.int k), some (.ref p)] /\ Same H0 H /\ H p = some (.lst (ZN pre)) /\ WayR rs k w /\ w0 = pre ++ w
def Zpr (F : Fun K "_law_way" "_law_way" Zdc f fd) : FnOk P w K mg base Zx 1 f fd ["_law_roads", "_law_k"] Zm2 := by
 refine JN F sc_law_way (λvs H Q E h => ?_) (λcdv A outer s H vs Q E hr h => ?_)
 ·obtain ⟨a, xs, rs, k, w, rfl, _⟩ := h; rfl
 obtain ⟨a, xs, rs, k, w0, rfl, ha, hR, hw0, hwl, q⟩ := h
 refine ⟨_, (Zd (Zo 2 sc_law_way.nd (JJ Za))
   (Zd (Zem YC (ZoT (Zf 1) Zc) (Zd (Ja (Zed (Zf 2) (Zg (Zf 1) Za)))
   (Zh (Zo 1 sc_law_way.nd (ZI (Jz (Zf 0) (JT (Zf 1) Zc)) Zc)))))
   (Zh (Zy (Zf 2))))), ?_⟩
 rw [show Zu ["_law_roads", "_law_k", "_law_way_here"] [.ref a, .int k] = [some (.ref a), some (.int k), none] from rfl]
 walk_at "rd"
 intro p H1 hp s1 e1
 refine ZeE (Pw H a p rs w0) (λZ _ => wayM rs (ZlQ Z 1).toNat) ⟨k, [], w0, rfl, s1, e1, hw0, rfl⟩ ?_
 rintro Z H2 ⟨k, pre, w, rfl, s2, e2, hw, hw1⟩
 walk_at "rd"
 have hap : a ≠ p := λz => by rw [z, hp] at ha; cases ha
 refine JQ (λhc => ?_) (λhc => ?_)
 ·cases hw with
  | nil => exact absurd rfl hc
  | @cons k r w h hw' =>
   have hkl : k < rs.length := (Yj.mp h).1
   have hkx : k < xs.length := by rw [hR.1]; exact hkl
   obtain ⟨pr, y, ex, hpr, hy⟩ := hR.2 k _ r (Yc hkx) h
   have hrp : pr ≠ p := λz => by rw [z, hp] at hpr; cases hpr
   have hlen : (ZN pre).length < 1000000 := by
    have := congrArg List.length hw1
    simp [ZN] at this ⊢
    omega
   refine ⟨λZ' H' => Z' = [some (.ref a), some (.int r.1), some (.ref p)] /\ Pw H a p rs w0 Z' H', λZ' H' ⟨e, hP⟩ => ⟨_, ?_, rfl, hP⟩, ⟨_, e2⟩, _, e2, hlen, xs, by rw [Ze hap]; exact s2 _ _ ha, xs[k], ?_, pr, ex, _, by rw [Ze hrp]; exact s2 _ _ hpr, _, rfl, rfl, ?_⟩
   ·subst e
    show wayM rs ((r.1 : Nat) : Int).toNat < wayM rs (((k + 1 : Nat)) : Int).toNat
    rw [VN, VN, Zes hw', Zes (.cons h hw')]
    simp
   ·rw [show (((k + 1 : Nat)) : Int) - 1 = (k : Int) by omega]
    exact ZP (Yc hkx)
   ·exact ⟨r.1, pre ++ [k + 1], w, rfl, Zr hp s2, by rw [upd_same]; simp [ZN], hw', by simp [hw1]⟩
 ·have hk0 : k = 0 := by omega
  subst hk0
  have e := hw.zero
  subst e
  rw [Y7] at hw1
  subst hw1
  exact q p H2 hp s2 e2
end
def PrP (H : Hp) (x : V) : Prop := ∃ a t b, x = .ref a /\ H a = some (.tup [.int t, .int b]) /\ 1 <= b /\ Int.gcd t b = 1 /\ 0 <= t
def RdP (H : Hp) (x : V) (n : Int) : Prop := ∃ a t y, x = .ref a /\ H a = some (.tup [.int t, y]) /\ 0 <= t /\ t < n /\ PrP H y
def Zor : Sp := λvs H Q _ => ∃ x, vs = [x] /\ PrP H x /\ Q (.bl true) H
def Zcq : Sp := λvs H Q _ => ∃ x, vs = [x] /\ PrP H x /\ Q (.bl true) H
def Zda : Sp := λvs H Q _ => ∃ x n, vs = [x, .int n] /\ RdP H x n /\ Q (.bl true) H
section
variable {P : Program} {w : World} {K : PySem.W.Frag} {mg : Str -> Option Value} {base : Heap} {f : Addr} {fd : FuncData}
def ZfE (F : Fun K "is_ratio" "is_ratio" Zca f fd) (Zk : mg "isinstance" = none) (Zcg : mg "tuple" = none) (ZA : mg "len" = none)
  (ZJ : Fn P w K mg base Zx 1 "is_whole" ["thing"] ZaC) (Zab : Fn P w K mg base Zx 1 "greatest_divisor" ["one", "other"] ZcY) :
  FnOk P w K mg base Zx 2 f fd ["thing"] Zor := by
 refine JN F sc_is_ratio (λvs H Q E h => ?_) (λcdv A outer s H vs Q E hr h => ?_)
 ·obtain ⟨x, rfl, _⟩ := h; rfl
 obtain ⟨x, rfl, ⟨a, t, b, rfl, ha, h1, h2, h3⟩, q⟩ := h
 refine ⟨_, (Zd (Jo (t_w (ZmE (ZdR (Jx (Zfn rfl Zk (Zg (Zf 0) (Zg (ZoQ rfl Zcg rfl) Za))))) (Zf6 (ZoT (Jt rfl ZA (Zg (Zf 0) Za)) Zc)))) (Zh (Zy Zkt)) Je)
   (Zd (Zo 1 sc_is_ratio.nd (ZI (Zf 0) Zc))
   (Zd (Zo 2 sc_is_ratio.nd (ZI (Zf 0) Zc))
   (Zd (Jo (t_w (ZmE (ZdR (Jx (ZB ZJ hr (by decide) rfl (Zg (Zf 1) Za)))) (Zf6 (ZdR (Jx (ZB ZJ hr (by decide) rfl (Zg (Zf 2) Za))))))) (Zh (Zy Zkt)) Je)
   (Zh (Zy (ZfS (ZrW (Zf 2) Zc) (Zjs (ZrR (ZB Zab hr (by decide) rfl (Zg (Zf 1) (Zg (Zf 2) Za))) Zc))))))))), ?_⟩
 rw [show Zu ["thing", "top", "bottom"] [.ref a] = [some (.ref a), none, none] from rfl]
 refine ZV λB hB => ?_
 refine JH λA hA C hC => ?_
 walk_at "rd"
 simp only [ZgK ha, ha]
 walk_at "rd"
 rw [if_neg (by decide)]
 subst hC
 walk_at "rd"
 subst hB
 try dsimp only
 refine ZV λB hB => ?_
 walk_at "rd"
 refine ⟨_, ha, _, rfl, ?_⟩
 subst hB
 try dsimp only
 refine ZV λB hB => ?_
 walk_at "rd"
 refine ⟨_, ha, _, rfl, ?_⟩
 subst hB
 try dsimp only
 refine ZV λB hB => ?_
 refine JH λA hA C hC => ?_
 walk_at "rd"
 simp only [ZaC]
 walk_at "rd"
 refine ⟨Zcr _, ?_⟩
 rw [if_neg (show ¬ isW (V.int t) = false from nofun)]
 refine ⟨Zcr _, ?_⟩
 rw [if_neg (show ¬ isW (V.int b) = false from nofun)]
 subst hC
 walk_at "rd"
 subst hB
 try dsimp only
 walk_at "rd"
 simp only [ZcY]
 walk_at "rd"
 rw [if_pos h1, h2]
 exact q
def ZfN (F : Fun K "is_price" "is_price" Zck f fd) (Zcl : Fn P w K mg base Zx 2 "is_ratio" ["thing"] Zor) : FnOk P w K mg base Zx 3 f fd ["thing"] Zcq := by
 refine JN F Zge (λvs H Q E h => ?_) (λcdv A outer s H vs Q E hr h => ?_)
 ·obtain ⟨x, rfl, _⟩ := h; rfl
 obtain ⟨x, rfl, ⟨a, t, b, rfl, ha, h1, h2, h3⟩, q⟩ := h
 refine ⟨_, (Zh (Zy (ZfS (ZB Zcl hr (by decide) rfl (Zg (Zf 0) Za)) (Zjs (ZrW (ZI (Zf 0) Zc) Zc))))), ?_⟩
 rw [show Zu ["thing"] [.ref a] = [some (.ref a)] from rfl]
 walk_at "rd"
 simp only [Zor, ha]
 walk_at "rd"
 rw [Y8 h3]
 exact ⟨⟨a, t, b, rfl, ha, h1, h2, h3⟩, q⟩
def Zid (F : Fun K "is_road" "is_road" Zdz f fd) (Zk : mg "isinstance" = none) (Zcg : mg "tuple" = none) (ZA : mg "len" = none) (ZJ : Fn P w K mg base Zx 1 "is_whole" ["thing"] ZaC)
  (Zcd : Fn P w K mg base Zx 3 "is_price" ["thing"] Zcq) : FnOk P w K mg base Zx 4 f fd ["thing", "many"] Zda := by
 refine JN F sc_is_road (λvs H Q E h => ?_) (λcdv A outer s H vs Q E hr h => ?_)
 ·obtain ⟨x, n, rfl, _⟩ := h; rfl
 obtain ⟨x, n, rfl, ⟨a, t, y, rfl, ha, h1, h2, hp⟩, q⟩ := h
 refine ⟨_, (Zd (Jo (t_w (ZmE (ZdR (Jx (Zfn rfl Zk (Zg (Zf 0) (Zg (ZoQ rfl Zcg rfl) Za))))) (Zf6 (ZoT (Jt rfl ZA (Zg (Zf 0) Za)) Zc)))) (Zh (Zy Zkt)) Je)
   (Zd (Zo 2 sc_is_road.nd (ZI (Zf 0) Zc))
   (Zh (Zy (ZfS (ZB ZJ hr (by decide) rfl (Zg (Zf 2) Za)) (ZfS (Zqc Zc (Zf 2) (Zf 1)) (Zjs (ZB Zcd hr (by decide) rfl (Zg (ZI (Zf 0) Zc) Za))))))))), ?_⟩
 rw [show Zu ["thing", "many", "to"] [.ref a, .int n] = [some (.ref a), some (.int n), none] from rfl]
 refine ZV λB hB => ?_
 refine JH λA hA C hC => ?_
 walk_at "rd"
 simp only [ZgK ha, ha]
 walk_at "rd"
 rw [if_neg (by decide)]
 subst hC
 walk_at "rd"
 subst hB
 try dsimp only
 refine ZV λB hB => ?_
 walk_at "rd"
 refine ⟨_, ha, _, rfl, ?_⟩
 subst hB
 try dsimp only
 walk_at "rd"
 simp only [ZaC, Zcq, ha]
 walk_at "rd"
 refine ⟨Zcr _, ?_⟩
 rw [if_pos (show isW (V.int t) = true from rfl), if_pos h1, if_pos h2]
 exact ⟨hp, q⟩
def ZfT : Sp := λvs H Q _ => ∃ (a : Addr) (xs : List V), vs = [.ref a] /\ H a = some (.lst xs) /\ xs.length <= 40 /\ (∀ x ∈ xs, RdP H x (xs.length + 1)) /\ Q .non H
def Zjn : Sp := λvs H Q _ => ∃ (a : Addr) (xs : List V) (rs : List (Nat × Rat)) (k : Nat) (w : List Nat), vs = [.ref a, .int k] /\ H a = some (.lst xs) /\ RoadsV H xs rs /\ WayR rs k w /\ w.length <= rs.length /\ rs.length <= 40 /\ k <= rs.length /\ (∀ r ∈ rs, r.1 <= rs.length) /\
 ∀ p H', H p = none -> Same H H' -> H' p = some (.lst (ZN w)) -> Q (.ref p) H'
def Plk (H0 : Hp) (a : Addr) (n : Nat) (i : Nat) (Z : St) (H : Hp) : Prop := ∃ o, Z = [some (.ref a), some (.int ((n : Int) + 1)), o] /\ H = H0
def Zn8 {tk : Tok} (F : Fun K "look_roads" "look_roads" Zbm f fd) (Zk : mg "isinstance" = none) (ZH : mg "list" = none) (ZA : mg "len" = none) (g_MOST_ROADS : mg "MOST_ROADS" = some (.int 40 tk))
  (ZdH : Fn P w K mg base Zx 4 "is_road" ["thing", "many"] Zda) : FnOk P w K mg base Zx 5 f fd ["thing"] ZfT := by
 refine JN F sc_look_roads (λvs H Q E h => ?_) (λcdv A outer s H vs Q E hr h => ?_)
 ·obtain ⟨a, xs, rfl, _⟩ := h; rfl
 obtain ⟨a, xs, rfl, ha, hl, hx, q⟩ := h
 refine ⟨_, (Zd (Jo (ZdR (Jx (Zfn rfl Zk (Zg (Zf 0) (Zg (ZoQ rfl ZH rfl) Za))))) (Zh Zbz) Je)
   (Zd (Jo (ZrH (Jt rfl ZA (Zg (Zf 0) Za)) (ZpT rfl g_MOST_ROADS)) (Zh Zbz) Je)
   (Zd (Zo 1 sc_look_roads.nd (Jg (Jt rfl ZA (Zg (Zf 0) Za)) Zc))
   (Zh (Jr YC (Ju (Zf 0)) (Zw 2 sc_look_roads.nd) (Zh (Jo (ZdR (Jx (ZB ZdH hr (by decide) rfl (Zg (Zf 2) (Zg (Zf 1) Za))))) (Zh Zbz) Je))))))), ?_⟩
 rw [show Zu ["thing", "many", "road"] [.ref a] = [some (.ref a), none, none] from rfl]
 refine ZV λB hB => ?_
 refine JH λA hA C hC => ?_
 walk_at "rd"
 simp only [ZlH ha]
 walk_at "rd"
 subst hC
 walk_at "rd"
 subst hB
 try dsimp only
 refine ZV λB hB => ?_
 refine JH λA hA C hC => ?_
 walk_at "rd"
 refine ⟨xs, .inl ha, ?_⟩
 rw [if_neg (by omega)]
 subst hC
 walk_at "rd"
 subst hB
 try dsimp only
 refine ZV λB hB => ?_
 walk_at "rd"
 refine ⟨xs, .inl ha, ?_⟩
 subst hB
 try dsimp only
 simp only [Za1]
 walk_at "rd"
 refine ZbD (Plk H a xs.length) ⟨_, rfl, rfl⟩ (λi Z H' _ ⟨o, _, e⟩ => by rw [e]; exact .of ha) (λi x Z H' hi hP => ?_) (λZ H' hP => ?_)
 ·obtain ⟨o, rfl, rfl⟩ := hP
  walk_at "rd"
  simp only [Zda]
  walk_at "rd"
  exact ⟨hx x (Yq hi), _, rfl, rfl⟩
 ·obtain ⟨o, rfl, rfl⟩ := hP
  exact q
def Pwf (H0 : Hp) (a p : Addr) (k0 : Nat) (rs : List (Nat × Rat)) (w0 : List Nat) (Z : St) (H : Hp) : Prop := ∃ (k : Nat) (pre w : List Nat), Z = [some (.ref a), some (.int k0), some (.ref p), some (.int k)] /\ Same H0 H /\ H p = some (.lst (ZN pre)) /\ WayR rs k w /\ w0 = pre ++ w
def Znu (F : Fun K "way_from" "way_from" Zcb f fd) (ZA : mg "len" = none) : FnOk P w K mg base Zx 1 f fd ["roads", "k"] Zjn := by
 refine JN F sc_way_from (λvs H Q E h => ?_) (λcdv A outer s H vs Q E hr h => ?_)
 ·obtain ⟨a, xs, rs, k, w, rfl, _⟩ := h; rfl
 obtain ⟨a, xs, rs, k0, w0, rfl, ha, hR, hw0, hwl, hrl, _, _, q⟩ := h
 refine ⟨_, (Zd (Zo 2 sc_way_from.nd (JJ Za))
   (Zd (Zo 3 sc_way_from.nd (Zf 1))
   (Zd (Zem YC (ZoT (Zf 3) Zc) (Zd (Jo (ZkD (Jt rfl ZA (Zg (Zf 2) Za)) (Jt rfl ZA (Zg (Zf 0) Za))) (Zh Zbz) Je)
   (Zd (Ja (Zed (Zf 2) (Zg (Zf 3) Za)))
   (Zh (Zo 3 sc_way_from.nd (ZI (Jz (Zf 0) (JT (Zf 3) Zc)) Zc))))))
   (Zh (Zy (Zf 2)))))), ?_⟩
 rw [show Zu ["roads", "k", "way", "place"] [.ref a, .int k0] = [some (.ref a), some (.int k0), none, none] from rfl]
 walk_at "rd"
 intro p H1 hp s1 e1
 refine ZeE (Pwf H a p k0 rs w0) (λZ _ => wayM rs (ZlQ Z 3).toNat) ⟨k0, [], w0, rfl, s1, e1, hw0, rfl⟩ ?_
 rintro Z H2 ⟨k, pre, w, rfl, s2, e2, hw, hw1⟩
 walk_at "rd"
 have hap : a ≠ p := λz => by rw [z, hp] at ha; cases ha
 refine JQ (λhc => ?_) (λhc => ?_)
 ·cases hw with
  | nil => exact absurd rfl hc
  | @cons k r w h hw' =>
   have hkl : k < rs.length := (Yj.mp h).1
   have hkx : k < xs.length := by rw [hR.1]; exact hkl
   obtain ⟨pr, y, ex, hpr, hy⟩ := hR.2 k _ r (Yc hkx) h
   have hrp : pr ≠ p := λz => by rw [z, hp] at hpr; cases hpr
   have hpl : pre.length < rs.length := by
    have := congrArg List.length hw1
    simp at this
    omega
   have hlen : (ZN pre).length < 1000000 := by simp [ZN]; omega
   simp only [e2, s2 _ _ ha]
   walk_at "rd"
   refine ⟨λZ' H' => Z' = [some (.ref a), some (.int k0), some (.ref p), some (.int r.1)] /\ Pwf H a p k0 rs w0 Z' H', λZ' H' ⟨e, hP⟩ => ⟨_, ?_, rfl, hP⟩, ?_⟩
   ·subst e
    show wayM rs ((r.1 : Nat) : Int).toNat < wayM rs (((k + 1 : Nat)) : Int).toNat
    rw [VN, VN, Zes hw', Zes (.cons h hw')]
    simp
   rw [if_neg (by have := hR.1; simp [ZN]; omega)]
   refine ⟨hlen, xs, by rw [Ze hap]; exact s2 _ _ ha, xs[k], ?_, pr, ex, _, by rw [Ze hrp]; exact s2 _ _ hpr, _, rfl, rfl, ?_⟩
   ·rw [show (((k + 1 : Nat)) : Int) - 1 = (k : Int) by omega]
    exact ZP (Yc hkx)
   ·exact ⟨r.1, pre ++ [k + 1], w, rfl, Zr hp s2, by rw [upd_same]; simp [ZN], hw', by simp [hw1]⟩
 ·have hk0 : k = 0 := by omega
  subst hk0
  have e := hw.zero
  subst e
  rw [Y7] at hw1
  subst hw1
  exact q p H2 hp s2 e2
end
theorem RatV.keep {H H' : Hp} {x : V} {q : Rat} (h : RatV H x q) (s : ∀ b ys, H b = some (.tup ys) -> H' b = some (.tup ys)) : RatV H' x q := let ⟨p, e, h1⟩ := h; ⟨p, e, s _ _ h1⟩
theorem RoadV.keep {H H' : Hp} {x : V} {r : Nat × Rat} (h : RoadV H x r) (s : ∀ b ys, H b = some (.tup ys) -> H' b = some (.tup ys)) : RoadV H' x r := let ⟨p, y, e, h1, h2⟩ := h; ⟨p, y, e, s _ _ h1, h2.keep s⟩
theorem RoadsV.keep {H H' : Hp} {xs : List V} {rs : List (Nat × Rat)} (h : RoadsV H xs rs) (s : ∀ b ys, H b = some (.tup ys) -> H' b = some (.tup ys)) : RoadsV H' xs rs := ⟨h.1, λi x r h1 h2 => (h.2 i x r h1 h2).keep s⟩
theorem RoadsV.same {H H' : Hp} {xs : List V} {rs : List (Nat × Rat)} (h : RoadsV H xs rs) (s : Same H H') : RoadsV H' xs rs := h.keep λb ys => s b _
def Zra (H : Hp) (ws : List V) (rs : List (Nat × Rat)) : Prop := ws.length = rs.length + 1 /\ ∀ (k : Nat) x, ws[k]? = some x -> ∃ p w, x = .ref p /\ H p = some (.lst (ZN w)) /\ WayR rs k w /\ w.length <= rs.length
def TreeV (C : Addr) (H : Hp) (x : V) (rs : List (Nat × Rat)) : Prop := ∃ a dx la wa ls ws, x = .ref a /\ H a = some (.ins C dx [("lanes", .ref la), ("ways", .ref wa)]) /\ H la = some (.lst ls) /\ RoadsV H ls rs /\ H wa = some (.lst ws) /\ Zra H ws rs
theorem TreeV.same {C : Addr} {H H' : Hp} {x : V} {rs : List (Nat × Rat)} (h : TreeV C H x rs) (s : Same H H') : TreeV C H' x rs := by
 obtain ⟨a, dx, la, wa, ls, ws, e, h1, h2, h3, h4, h5, h6⟩ := h
 exact ⟨a, dx, la, wa, ls, ws, e, s _ _ h1, s _ _ h2, h3.same s, s _ _ h4, h5, λk x hx => let ⟨p, w, e, g1, g2⟩ := h6 k x hx; ⟨p, w, e, s _ _ g1, g2⟩⟩
def Zhx {H : Hp} {x : V} {r : Nat × Rat} {n : Int} (h : RoadV H x r) (h1 : (r.1 : Int) < n) (h2 : 0 <= r.2.num) : RdP H x n := by
 obtain ⟨p, y, rfl, hp, q, rfl, hq⟩ := h
 have hg : Int.gcd r.2.num (r.2.den : Int) = 1 := by
  show Nat.gcd r.2.num.natAbs (Int.natAbs (r.2.den : Int)) = 1
  rw [VJ]
  exact r.2.reduced
 have hd : 1 <= (r.2.den : Int) := by have := r.2.den_pos; omega
 exact ⟨p, _, _, rfl, hp, by omega, h1, q, _, _, rfl, hq, hd, hg, h2⟩
section
variable {P : Program} {w : World} {K : PySem.W.Frag} {mg : Str -> Option Value} {base : Heap} {f : Addr} {fd : FuncData} {CT CNP : Addr}
def Zi1 (C : Addr) : Sp := λvs H Q _ => ∃ (x dx a : Addr) (xs : List V) (rs : List (Nat × Rat)), vs = [.ref x, .ref a] /\ H x = some (.ins C dx []) /\ H a = some (.lst xs) /\ RoadsV H xs rs /\ ZbJ rs /\ rs.length <= 40 /\ (∀ r ∈ rs, 0 <= r.2.num) /\
 ∀ H', (∀ b o, b ≠ x -> H b = some o -> H' b = some o) -> TreeV C H' (.ref x) rs -> (∀ l zs, H l = some (.lst zs) -> ∀ H'', Same H' H'' -> ∀ ys, TreeV C (upd H'' l (.lst ys)) (.ref x) rs) -> Q .non H'
def Zn3 (F : Fun K "__init__" "Tree.__init__" Zad f fd) (ZH : mg "list" = none) (ZA : mg "len" = none) (ZK : mg "range" = none) (Zz : Cls K CT) (ZaN : NoAttr K CT "lanes") (Jb : NoAttr K CT "ways")
  (Zbs : Fn P w K mg base Zx 5 "look_roads" ["thing"] ZfT) (Zcn : Fn P w K mg base Zx 1 "way_from" ["roads", "k"] Zjn) : FnOk P w K mg base Zx 6 f fd ["self", "roads"] (Zi1 CT) := by
 refine JN F ZcF (λvs H Q E h => ?_) (λcdv A outer s H vs Q E hr h => ?_)
 ·obtain ⟨x, dx, a, xs, rs, rfl, _⟩ := h; rfl
 obtain ⟨x, dx, a, xs, rs, rfl, hx, ha, hR, hT, hl, hn, q⟩ := h
 refine ⟨_, (Zd (Ja (ZB Zbs hr (by decide) rfl (Zg (Zf 1) Za)))
   (Zd (Zqf (Zf 0) (ZfD rfl ZH (Zg (Zf 1) Za)))
   (Zh (Zqf (Zf 0) (ZgU (ZlK ["k"] [1] ["roads"]) (ZdB rfl ZK (Zg (Jg (Jt rfl ZA (Zg (Zf 1) Za)) Zc) Za)) (by exact λs H fp => (Zw 0 (show List.Nodup (["k", "roads"] : List Str) from by decide +kernel))) (by exact λs H fp => (ZB Zcn hr (by decide) rfl (Zg (Zf 1) (Zg (Zf 0) Za))))))))), ?_⟩
 rw [show Zu ["self", "roads"] [.ref x, .ref a] = [some (.ref x), some (.ref a)] from rfl]
 walk_at "rd"
 simp only [ZfT, Zh6]
 walk_at "rd"
 refine ⟨xs, ha, by rw [hR.1]; exact hl, λy hy => ?_, xs, .inl (.of ha), λl H1 hl1 s1 e1 => ?_⟩
 ·obtain ⟨i, hi⟩ := Vu hy
  have hi' : i < rs.length := by rw [<- hR.1]; exact (Yj.mp hi).1
  obtain ⟨_, _, _, hT2⟩ := hT
  have h2 := hT2 i _ (Yc hi')
  exact Zhx (hR.2 i y _ hi (Yc hi')) (by rw [hR.1]; omega) (hn _ (YI hi'))
 refine ⟨CT, dx, [], s1 _ _ hx, Zz, ZaN, by decide, ?_⟩
 have hax : a ≠ x := Jc ha hx (by intro z; cases z)
 rw [show JW (Str.ofString "lanes") (.ref l) [] = [(Str.ofString "lanes", V.ref l)] from rfl]
 have k1 : ∀ b o, b ≠ x -> H b = some o -> upd H1 x (.ins CT dx [(Str.ofString "lanes", V.ref l)]) b = some o := λb o hb e => by rw [Ze hb]; exact s1 _ _ e
 have ha2 : upd H1 x (.ins CT dx [(Str.ofString "lanes", V.ref l)]) a = some (.lst xs) := k1 _ _ hax ha
 have hl2 : upd H1 x (.ins CT dx [(Str.ofString "lanes", V.ref l)]) l = some (.lst xs) := by rw [Ze (Jc e1 (s1 _ _ hx) (by intro z; cases z))]; exact e1
 have hx2 : upd H1 x (.ins CT dx [(Str.ofString "lanes", V.ref l)]) x = some (.ins CT dx [(Str.ofString "lanes", V.ref l)]) := upd_same
 generalize upd H1 x (.ins CT dx [(Str.ofString "lanes", V.ref l)]) = H2 at k1 ha2 hl2 hx2 ⊢
 simp only [JS, Zh0, cxK]
 walk_at "rd"
 have hxl := hR.1
 have hto : ∀ r ∈ rs, r.1 <= rs.length := λr hr => by
  obtain ⟨_, _, _, g⟩ := id hT
  obtain ⟨i, hi⟩ := Vu hr
  exact (g i r hi).1
 refine ⟨xs, .inl ha2, by omega, by omega, ?_⟩
 rw [show Jn [some (V.ref x), some (V.ref a)] [1] = [some (V.ref a)] from rfl]
 have tk : ∀ H3, Same H2 H3 -> RoadsV H3 xs rs := λH3 sm => hR.keep λb ys e => sm _ _ (k1 b _ (Jc e hx (by intro z; cases z)) e)
 refine Zki (λacc i ys H' => Same H2 H' /\ H' acc = some (.lst ys) /\ ys.length = i /\ i <= 50 /\ ∀ (k : Nat) y, ys[k]? = some y -> ∃ p w, y = .ref p /\ p ≠ acc /\ H2 p = none /\ H' p = some (.lst (ZN w)) /\ WayR rs k w /\ w.length <= rs.length)
  (λacc H3 hn sm e => ⟨sm, e, rfl, by omega, λk y hy => by simp at hy⟩) (λacc i ys H3 ⟨_, e, hl, hi, _⟩ => ⟨e, by omega⟩) (λacc i ys H3 os hn hi hP ol => ?_) (λacc ys H3 hn' hP => ?_)
 ·obtain ⟨sm, e, hyl, hi2, hE⟩ := hP
  obtain ⟨o, rfl⟩ : ∃ o, os = [o] := by match os, ol with | [o], _ => exact ⟨o, rfl⟩
  obtain ⟨w, hw, hwl⟩ := Zb4 hT (k := i) (by omega)
  walk_at "rd"
  refine ⟨[some (.int (i : Int))], rfl, rfl, ?_⟩
  refine ⟨a, xs, rs, i, w, rfl, sm _ _ ha2, tk _ sm, hw, hwl, by omega, by omega, hto, λp' H4 hp' s4 e4 => ⟨s4 _ _ e, Zr hn (sm.trans s4), upd_same, by simp [hyl], by omega, λk y hy => ?_⟩⟩
  by_cases hk : k < ys.length
  ·rw [Va hk] at hy
   obtain ⟨p, w, e5, hpa, hpn, e6, e7⟩ := hE k y hy
   exact ⟨p, e5, hpa, hpn, w, by rw [Ze hpa]; exact s4 _ _ e6, e7⟩
  ·have hk2 : k = i := by
    have := (Yj.mp hy).1
    simp at this; omega
   subst hk2
   rw [YX (by omega), hyl] at hy
   have hy' : V.ref p' = y := by simpa using hy
   subst hy'
   have hpa : p' ≠ acc := λz => by rw [z, e] at hp'; cases hp'
   exact ⟨p', rfl, hpa, sm.free hp', w, by rw [Ze hpa]; exact e4, hw, hwl⟩
 ·obtain ⟨sm, e, hyl, hi2, hE⟩ := hP
  have nx : ∀ b ys, H3 b = some (.lst ys) -> b ≠ x := λb ys e => Jc e (sm _ _ hx2) (by intro z; cases z)
  have gen : ∀ H5 : Hp, H5 x = some (.ins CT dx [("lanes", .ref l), ("ways", .ref acc)]) -> H5 l = some (.lst xs) -> H5 acc = some (.lst ys) -> (∀ p w, H2 p = none -> H3 p = some (.lst (ZN w)) -> H5 p = some (.lst (ZN w))) -> (∀ b zs, H3 b = some (.tup zs) -> H5 b = some (.tup zs)) -> TreeV CT H5 (.ref x) rs := by
   intro H5 g1 g2 g3 g4 g5
   refine ⟨x, dx, l, acc, xs, ys, rfl, g1, g2, (tk _ sm).keep g5, g3, by omega, λk y hy => ?_⟩
   obtain ⟨p, w, e5, _, hpn, e6, e7⟩ := hE k y hy
   exact ⟨p, w, e5, g4 _ _ hpn e6, e7⟩
  refine ⟨CT, dx, _, sm _ _ hx2, Zz, Jb, by show (1 : Nat) < 1000; decide, q _ (λb o hb e => by rw [Ze hb]; exact sm _ _ (k1 b o hb e)) ?_ (λl0 zs h0 H'' s'' us => ?_)⟩
  ·exact gen _ upd_same (by rw [Ze (nx _ _ (sm _ _ hl2))]; exact sm _ _ hl2) (by rw [Ze (nx _ _ e)]; exact e) (λp w _ h => by rw [Ze (nx _ _ h)]; exact h) (λb zs h => by rw [Ze (Jc h (sm _ _ hx2) (by intro z; cases z))]; exact h)
  ·have n1 : x ≠ l0 := Jc hx h0 (by intro z; cases z)
   have h2 : H2 l0 = some (.lst zs) := k1 _ _ (λz => n1 z.symm) h0
   have h3 : H'' l0 = some (.lst zs) := s'' _ _ (by rw [Ze (λz => n1 z.symm)]; exact sm _ _ h2)
   have keepL : ∀ b ws, b ≠ l0 -> H3 b = some (.lst ws) -> upd H'' l0 (.lst us) b = some (.lst ws) := λb ws hb h => by
    rw [Ze hb]; exact s'' _ _ (by rw [Ze (nx _ _ h)]; exact h)
   have n2 : l ≠ l0 := λz => by rw [z, h0] at hl1; cases hl1
   have n3 : acc ≠ l0 := λz => by rw [z, h2] at hn'; cases hn'
   exact gen _ (by rw [Ze n1]; exact s'' _ _ upd_same) (keepL _ _ n2 (sm _ _ hl2)) (keepL _ _ n3 e) (λp w hp h => keepL _ _ (λz => by rw [z, h2] at hp; cases hp) h)
    (λb zs' h => by
     have hb : b ≠ l0 := Jc h (sm _ _ h2) (by intro z; cases z)
     rw [Ze hb]; exact s'' _ _ (by rw [Ze (Jc h (sm _ _ hx2) (by intro z; cases z))]; exact h))
def Zez (C : Addr) : Sp := λvs H Q _ => ∃ x rs, vs = [x] /\ TreeV C H x rs /\ Q (.int ((rs.length : Int) + 1)) H
def ZnE (F : Fun K "many" "Tree.many" Zan f fd) (ZA : mg "len" = none) (Zz : Cls K CT) (Jb : NoAttr K CT "ways") : FnOk P w K mg base Zx 1 f fd ["self"] (Zez CT) := by
 refine JN F Zff (λvs H Q E h => ?_) (λcdv A outer s H vs Q E hr h => ?_)
 ·obtain ⟨x, rs, rfl, _⟩ := h; rfl
 obtain ⟨x, rs, rfl, ⟨a, dx, la, wa, ls, ws, rfl, h1, h2, h3, h4, h5, h6⟩, q⟩ := h
 refine ⟨_, (Zh (Zy (Jt rfl ZA (Zg (ZoD (Zf 0)) Za)))), ?_⟩
 rw [show Zu ["self"] [.ref a] = [some (.ref a)] from rfl]
 walk_at "rd"
 refine ⟨CT, dx, _, h1, Zz, Jb, .ref wa, rfl, wa, rfl, ws, .inl h4, ?_⟩
 rw [show ((ws.length : Nat) : Int) = (rs.length : Int) + 1 by omega]
 exact q
def inT (rs : List (Nat × Rat)) (k : Int) : Prop := 0 <= k /\ k <= rs.length
def Zey (C CNP : Addr) : Sp := λvs H Q E => ∃ x rs k, vs = [x, .int k] /\ TreeV C H x rs /\ (inT rs k -> Q .non H) /\ (¬ inT rs k -> E (.ref CNP) none H)
def Zkx (F : Fun K "look_crossing" "Tree.look_crossing" Zaa f fd) (ZJ : Fn P w K mg base Zx 1 "is_whole" ["thing"] ZaC)
  (ZdX : Mth P w K mg base Zx 1 CT "many" ["self"] (Zez CT)) : FnOk P w K mg base Zx 2 f fd ["self", "k"] (λvs H Q _ => Zey CT CNP vs H Q E0) := by
 refine JN F Zbl (λvs H Q E h => ?_) (λcdv A outer s H vs Q E hr h => ?_)
 ·obtain ⟨x, rs, k, rfl, _⟩ := h; rfl
 obtain ⟨x, rs, k, rfl, hT, q1, q2⟩ := h
 have hin : inT rs k := VE λz => q2 z
 refine ⟨_, (Zh (Jo (t_w (ZmE (ZdR (Jx (ZB ZJ hr (by decide) rfl (Zg (Zf 1) Za)))) (ZmE (ZoS (Zf 1) Zc) (Zf6 (Zr8 (Zf 1) (Zje ZdX hr (by decide) (Zf 0))))))) (Zh Zbz) Je)), ?_⟩
 rw [show Zu ["self", "k"] [x, .int k] = [some (x), some (.int k)] from rfl]
 walk_at "rd"
 simp only [ZaC, Zez]
 walk_at "rd"
 refine ⟨Zcr k, ?_⟩
 rw [if_neg (by simp [isW])]
 refine JQ (λc => absurd hin (by unfold inT; omega)) (λc => ?_)
 obtain ⟨a, dx, la, wa, ls, ws, rfl, h1, _⟩ := id hT
 exact ⟨a, rfl, dx, _, h1, rfl, rs, hT, JQ (λc2 => absurd hin (by unfold inT; omega)) (λc2 => q1 hin)⟩
def Zf5 (C CNP : Addr) : Sp := λvs H Q E => ∃ x rs k, vs = [x, .int k] /\ TreeV C H x rs /\ (∀ (p : Addr) (H' : Hp) (k' : Nat) (w : List Nat), k = (k' : Int) -> H p = none -> Same H H' -> H' p = some (.lst (ZN w)) -> WayR rs k' w -> w.length <= rs.length -> Q (.ref p) H') /\ (¬ inT rs k -> E (.ref CNP) none H)
def Znx (F : Fun K "way" "Tree.way" Zap f fd) (ZH : mg "list" = none) (Zz : Cls K CT) (Jb : NoAttr K CT "ways")
  (Zam : Mth P w K mg base Zx 2 CT "look_crossing" ["self", "k"] (λvs H Q _ => Zey CT CNP vs H Q E0)) : FnOk P w K mg base Zx 3 f fd ["self", "k"] (λvs H Q _ => Zf5 CT CNP vs H Q E0) := by
 refine JN F ZfF (λvs H Q E h => ?_) (λcdv A outer s H vs Q E hr h => ?_)
 ·obtain ⟨x, rs, k, rfl, _⟩ := h; rfl
 obtain ⟨x, rs, k, rfl, hT, q1, q2⟩ := h
 have hin : inT rs k := VE λz => q2 z
 refine ⟨_, (Zd (Ja (ZbI Zam hr (by decide) (Zf 0) (Zg (Zf 1) Za)))
   (Zh (Zy (ZfD rfl ZH (Zg (Jz (ZoD (Zf 0)) (Zf 1)) Za))))), ?_⟩
 rw [show Zu ["self", "k"] [x, .int k] = [some (x), some (.int k)] from rfl]
 walk_at "rd"
 simp only [Zh6]
 walk_at "rd"
 obtain ⟨a, dx, la, wa, ls, ws, rfl, h1, h2, h3, h4, h5, h6⟩ := id hT
 refine ⟨a, rfl, dx, _, h1, rfl, .ref a, rs, k, rfl, hT, λ_ => ?_, λz => z hin⟩
 obtain ⟨k', hk'⟩ : ∃ k' : Nat, k = (k' : Int) := ⟨k.toNat, by unfold inT at hin; omega⟩
 subst hk'
 have hlt : k' < ws.length := by unfold inT at hin; omega
 obtain ⟨p, w, e5, e6, e7, e8⟩ := h6 k' _ (Yc hlt)
 exact ⟨a, rfl, CT, dx, _, h1, Zz, Jb, .ref wa, rfl, wa, rfl, ws, h4, _, ZP (Yc hlt), p, e5, ZN w, .inl (.of e6), λl H2 hl s e => q1 l H2 k' w rfl hl s e e7 e8⟩
def inR (rs : List (Nat × Rat)) (k : Int) : Prop := 1 <= k /\ k <= rs.length
def ZeV (C CNP : Addr) : Sp := λvs H Q E => ∃ x rs k, vs = [x, .int k] /\ TreeV C H x rs /\ (inR rs k -> Q .non H) /\ (¬ inR rs k -> E (.ref CNP) none H)
def ZlU (F : Fun K "look_road" "Tree.look_road" Zac f fd)
  (Zam : Mth P w K mg base Zx 2 CT "look_crossing" ["self", "k"] (λvs H Q _ => Zey CT CNP vs H Q E0)) : FnOk P w K mg base Zx 3 f fd ["self", "k"] (λvs H Q _ => ZeV CT CNP vs H Q E0) := by
 refine JN F Zcf (λvs H Q E h => ?_) (λcdv A outer s H vs Q E hr h => ?_)
 ·obtain ⟨x, rs, k, rfl, _⟩ := h; rfl
 obtain ⟨x, rs, k, rfl, hT, q1, q2⟩ := h
 have hin : inR rs k := VE λz => q2 z
 refine ⟨_, (Zd (Ja (ZbI Zam hr (by decide) (Zf 0) (Zg (Zf 1) Za)))
   (Zh (Jo (ZkD (Zf 1) Zc) (Zh Zbz) Je))), ?_⟩
 rw [show Zu ["self", "k"] [x, .int k] = [some (x), some (.int k)] from rfl]
 walk_at "rd"
 obtain ⟨a, dx, la, wa, ls, ws, rfl, h1, _⟩ := id hT
 refine ⟨a, rfl, dx, _, h1, rfl, .ref a, rs, k, rfl, hT, λ_ => ?_, λz => z ⟨by unfold inR at hin; omega, by unfold inR at hin; omega⟩⟩
 exact JQ (λc => absurd hin (by unfold inR; omega)) (λc => q1 hin)
end
open Classical in
noncomputable def wayL (rs : List (Nat × Rat)) (k : Nat) : List Nat := if h : ∃ w, WayR rs k w then h.choose else []
theorem Za5 {rs : List (Nat × Rat)} {k : Nat} {w : List Nat} (h : WayR rs k w) : wayL rs k = w := by
 have hh : ∃ w, WayR rs k w := ⟨w, h⟩
 unfold wayL
 rw [dif_pos hh]
 exact h.uniq hh.choose_spec
noncomputable def ben (rs : List (Nat × Rat)) (k : Nat) : List Nat := (List.range (rs.length + 1)).filter λj => decide (k ∈ wayL rs j)
def ZfV {k : Nat} {w : List Nat} : inV (.int (k : Int)) (ZN w) = decide (k ∈ w) := by
 unfold inV ZN
 rw [List.any_map, VQ, List.any_eq_true, Ve]
 constructor
 ·rintro ⟨y, hy, e⟩
  have e : (y : Int) = (k : Int) := by simpa [eqV] using e
  have : y = k := by omega
  rw [<- this]; exact hy
 ·intro h
  exact ⟨k, h, by simp [eqV]⟩
def ZeT {w : List Nat} : (ZN w).all JL = true := by
 rw [List.all_eq_true]
 intro v hv
 obtain ⟨k, _, rfl⟩ := Yk.mp hv
 rfl
section
variable {P : Program} {w : World} {K : PySem.W.Frag} {mg : Str -> Option Value} {base : Heap} {f : Addr} {fd : FuncData} {CT CNP : Addr}
def Zji (C CNP : Addr) : Sp := λvs H Q E => ∃ x rs k, vs = [x, .int k] /\ TreeV C H x rs /\ rs.length <= 100 /\ (∀ (p : Addr) (H' : Hp) (k' : Nat), k = (k' : Int) -> inR rs k -> H p = none -> Same H H' -> H' p = some (.lst (ZN (ben rs k'))) -> Q (.ref p) H') /\ (¬ inR rs k -> E (.ref CNP) none H)
def ZnL (F : Fun K "beneath" "Tree.beneath" Zae f fd) (ZK : mg "range" = none) (Zz : Cls K CT) (Jb : NoAttr K CT "ways") (ZdX : Mth P w K mg base Zx 1 CT "many" ["self"] (Zez CT))
  (Zay : Mth P w K mg base Zx 3 CT "look_road" ["self", "k"] (λvs H Q _ => ZeV CT CNP vs H Q E0)) : FnOk P w K mg base Zx 4 f fd ["self", "k"] (λvs H Q _ => Zji CT CNP vs H Q E0) := by
 refine JN F Zdp (λvs H Q E h => ?_) (λcdv A outer s H vs Q E hr h => ?_)
 ·obtain ⟨x, rs, k, rfl, _⟩ := h; rfl
 obtain ⟨x, rs, k, rfl, hT, hrl, q1, q2⟩ := h
 have hin : inR rs k := VE λz => q2 z
 refine ⟨_, (Zd (Ja (ZbI Zay hr (by decide) (Zf 0) (Zg (Zf 1) Za)))
   (Zh (Zy (Zf8 (ZlK ["place"] [0, 1] ["self", "k"]) (ZdB rfl ZK (Zg (Zje ZdX hr (by decide) (Zf 0)) Za)) (by exact λs H fp => (Zw 0 (show List.Nodup (["place", "self", "k"] : List Str) from by decide +kernel))) (by exact λs H fp => ZgF (Ziu K (Zf 2) (Jz (Zo2 K (Zf 1)) (Zf 0)))) (by exact λs H fp => (Zf 0)))))), ?_⟩
 rw [show Zu ["self", "k"] [x, .int k] = [some (x), some (.int k)] from rfl]
 walk_at "rd"
 obtain ⟨a, dx, la, wa, ls, ws, rfl, h1, h2, h3, h4, h5, h6⟩ := id hT
 refine ⟨a, rfl, dx, _, h1, rfl, .ref a, rs, k, rfl, hT, λ_ => ?_, λz => z hin⟩
 obtain ⟨k', hk'⟩ : ∃ k' : Nat, k = (k' : Int) := ⟨k.toNat, by unfold inR at hin; omega⟩
 subst hk'
 simp only [ZcD, Zh0]
 walk_at "rd"
 refine ⟨dx, _, h1, rfl, .ref a, rs, rfl, hT, _, rfl, by omega, by omega, ?_⟩
 rw [show Jn [some (V.ref a), some (V.int (k' : Int))] [0, 1] = [some (V.ref a), some (V.int (k' : Int))] from rfl, show ((rs.length : Int) + 1).toNat = rs.length + 1 by omega]
 refine Zg9 (λacc i ys H' => Same H H' /\ H' acc = some (.lst ys) /\ ys = ZN ((List.range i).filter λj => decide (k' ∈ wayL rs j)) /\ i <= rs.length + 1) (λacc H2 hn sm e => ⟨sm, e, rfl, by omega⟩) (λacc i ys H2 ⟨_, e, ey, hi⟩ => ⟨e, ?_⟩) (λacc i ys H2 os hn hi hP ol => ?_) (λacc ys H2 hn hP => ?_)
 ·rw [ey]
  have := YK (λj => decide (k' ∈ wayL rs j)) (List.range i)
  simp [ZN] at this ⊢
  omega
 ·obtain ⟨sm, e, ey, hi2⟩ := hP
  obtain ⟨o, rfl⟩ : ∃ o, os = [o] := by match os, ol with | [o], _ => exact ⟨o, rfl⟩
  have hlt : i < ws.length := by omega
  obtain ⟨p, w, e5, e6, e7, e8⟩ := h6 i _ (Yc hlt)
  walk_at "rd"
  refine ⟨[some (.int (i : Int))], rfl, rfl, ?_⟩
  simp only [rIn]
  walk_at "rd"
  refine ⟨CT, dx, _, sm _ _ h1, Zz, Jb, .ref wa, rfl, wa, rfl, ws, sm _ _ h4, _, ZP (Yc hlt), p, e5, ZN w, .inl (.of (sm _ _ e6)), rfl, ZeT, ?_⟩
  rw [ZfV]
  have ew : wayL rs i = w := Za5 e7
  refine JQ (λc => ⟨e, Zr hn sm, upd_same, ?_, by omega⟩) (λc => ⟨sm, e, ?_, by omega⟩)
  ·rw [List.range_succ, VI, Yam (by show decide (k' ∈ wayL rs i) = true; rw [ew]; exact c), List.filter_nil, ey]
   simp [ZN]
  ·rw [List.range_succ, VI, Yan (by show ¬ decide (k' ∈ wayL rs i) = true; rw [ew]; exact c), List.filter_nil, Y7, ey]
 ·obtain ⟨sm, e, ey, hi2⟩ := hP
  subst ey
  exact q1 acc H2 k' rfl hin hn sm e
def Zdl (C CNP : Addr) : Sp := λvs H Q E => ∃ x rs k, vs = [x, .int k] /\ TreeV C H x rs /\ (∀ (k' : Nat) r y, k = (k' : Int) + 1 -> rs[k']? = some r -> RatV H y r.2 -> Q y H) /\ (¬ inR rs k -> E (.ref CNP) none H)
def Zit (F : Fun K "price" "Tree.price" Zaj f fd) (Zz : Cls K CT) (ZaN : NoAttr K CT "lanes")
  (Zay : Mth P w K mg base Zx 3 CT "look_road" ["self", "k"] (λvs H Q _ => ZeV CT CNP vs H Q E0)) : FnOk P w K mg base Zx 4 f fd ["self", "k"] (λvs H Q _ => Zdl CT CNP vs H Q E0) := by
 refine JN F ZeY (λvs H Q E h => ?_) (λcdv A outer s H vs Q E hr h => ?_)
 ·obtain ⟨x, rs, k, rfl, _⟩ := h; rfl
 obtain ⟨x, rs, k, rfl, hT, q1, q2⟩ := h
 have hin : inR rs k := VE λz => q2 z
 refine ⟨_, (Zd (Ja (ZbI Zay hr (by decide) (Zf 0) (Zg (Zf 1) Za)))
   (Zh (Zy (ZI (Jz (ZoD (Zf 0)) (JT (Zf 1) Zc)) Zc)))), ?_⟩
 rw [show Zu ["self", "k"] [x, .int k] = [some (x), some (.int k)] from rfl]
 walk_at "rd"
 obtain ⟨a, dx, la, wa, ls, ws, rfl, h1, h2, h3, _⟩ := id hT
 refine ⟨a, rfl, dx, _, h1, rfl, .ref a, rs, k, rfl, hT, λ_ => ?_, λz => z hin⟩
 obtain ⟨k', hk'⟩ : ∃ k' : Nat, k = (k' : Int) + 1 := ⟨(k - 1).toNat, by unfold inR at hin; omega⟩
 subst hk'
 have hl := h3.1
 have hlr : k' < rs.length := by unfold inR at hin; omega
 have hls : k' < ls.length := by omega
 obtain ⟨p, y, e, e2, e3⟩ := h3.2 k' _ _ (Yc hls) (Yc hlr)
 refine ⟨a, rfl, CT, dx, _, h1, Zz, ZaN, .ref la, rfl, la, rfl, ls, h2, _, ?_, p, e, _, e2, _, rfl, q1 k' _ y rfl (Yc hlr) e3⟩
 rw [show (k' : Int) + 1 - 1 = (k' : Int) by omega]
 exact ZP (Yc hls)
end
def Zeq : Sp := λvs H Q _ => ∃ c m : Int, vs = [.int c, .int m] /\ 0 <= m /\ m < 100 /\ ∀ p H' (ss : List Str), H p = none -> Same H H' -> H' p = some (.lst (ss.map V.str)) -> (ss.length : Int) = m -> (∀ z ∈ ss, z.length <= 8) -> Q (.ref p) H'
def Zo4 : ∀ m : Nat, m < 8 -> (Txt.slice (Str.ofString "qqqqqqq") none (some (m : Int))).length <= m := by decide +kernel
def Zrr (ss : List Str) : Prop := ∀ z ∈ ss, z.length = 1
section
variable {P : Program} {w : World} {K : PySem.W.Frag} {mg : Str -> Option Value} {base : Heap} {f : Addr} {fd : FuncData} {CT CNP : Addr}
def Zhc : ∀ {ss : List Str}, Zrr ss -> (ss.map (·.length)).sum = ss.length
 | [], _ => rfl
 | z :: ss, h => by
  rw [Yr, VV, h z (Vd ..), Zhc λy hy => h y (YZ _ hy), YQ, Nat.add_comm]
theorem Zip : (Str.ofString "abcdefghijklmnopqrstuvwxyz").length = 26 := by decide +kernel
def ZmD {i : Int} (h0 : 0 <= i) (h1 : i < 26) : ∃ c, atI (Str.ofString "abcdefghijklmnopqrstuvwxyz").cps.toList i = some c := by
 obtain ⟨k, rfl⟩ : ∃ k : Nat, i = (k : Int) := ⟨i.toNat, by omega⟩
 have hl : (Str.ofString "abcdefghijklmnopqrstuvwxyz").cps.toList.length = 26 := by decide +kernel
 have hk : k < (Str.ofString "abcdefghijklmnopqrstuvwxyz").cps.toList.length := by omega
 exact ⟨_, ZP (Yc hk)⟩
def Zsj (H0 : Hp) (c m : Int) (p : Addr) (i : Nat) (Z : St) (H : Hp) : Prop := ∃ (r : Int) (o : Option V) (ss : List Str), Z = [some (.int c), some (.int m), some (.str (Str.ofString "abcdefghijklmnopqrstuvwxyz")), some (.ref p), some (.int r), o, none, none, none, none, none] /\ Same H0 H /\ H p = some (.lst (ss.map V.str)) /\ ss.length = i /\ Zrr ss
def Zsm (H0 : Hp) (c m : Int) (k : Nat) (p pn : Addr) (ss : List Str) (i : Nat) (Z : St) (H : Hp) : Prop := ∃ (r a0 : Int) (o1 o2 o3 : Option V) (ns : List Str), Z = [some (.int c), some (.int m), some (.str (Str.ofString "abcdefghijklmnopqrstuvwxyz")), some (.ref p), some (.int r), o1, some (.int (k : Int)), some (.int a0), some (.ref pn), o2, o3] /\
 Same H0 H /\ H p = some (.lst (ss.map V.str)) /\ H pn = some (.lst (ns.map V.str)) /\ ns.length = i /\ ∀ z ∈ ns, z.length <= 8
def ZkK (F : Fun K "_law_names_by" "_law_names_by" ZaT f fd) (ZK : mg "range" = none) (ZA : mg "len" = none) (ZH : mg "list" = none) : FnOk P w K mg base Zx 1 f fd ["_law_cell", "_law_many"] Zeq := by
 refine JN F sc_law_names_by (λvs H Q E h => ?_) (λcdv A outer s H vs Q E hr h => ?_)
 ·obtain ⟨c, m, rfl, _⟩ := h; rfl
 obtain ⟨c, m, rfl, hm0, hm1, q⟩ := h
 refine ⟨_, (Zd (Zo 2 sc_law_names_by.nd JR)
   (Zd (Zo 3 sc_law_names_by.nd (JJ Za))
   (Zd (Zo 4 sc_law_names_by.nd (Jk (Zf 0) Zc))
   (Zd (Jr YC (ZdB rfl ZK (Zg (Jg Zc (ZY (Zf 0) Zc)) Za)) (Zw 5 sc_law_names_by.nd) (Zd (Ja (Zed (Zf 3) (Zg (ZpY (Zf 2) (ZY (Zf 4) Zc)) Za)))
   (Zh (Zo 4 sc_law_names_by.nd (Jk (Zf 4) Zc)))))
   (Zd (Zo 6 sc_law_names_by.nd (ZY (Jk (Zf 0) Zc) (Jt rfl ZA (Zg (Zf 3) Za))))
   (Zd (Zo 7 sc_law_names_by.nd (ZpB (Zf 2) (Zg (Jz (Zf 3) (Zf 6)) Za)))
   (Zd (Zo 8 sc_law_names_by.nd (JJ Za))
   (Zd (Jr YC (ZdB rfl ZK (Zg (Zf 1) Za)) (Zw 5 sc_law_names_by.nd) (Zd (Zo 9 sc_law_names_by.nd (ZfD rfl ZH (Zg (Zf 3) Za)))
   (Zd (Zof (ZpY (Zf 2) (ZY (Zf 7) Zc)) (Zlu (Zf 9) (Zf 6)))
   (Zd (Zo 7 sc_law_names_by.nd (Jg (Zf 7) (Jz (JJ (Zg Zc (Zg Zc Za))) (ZY (Jk (Zf 0) Zc) Zc))))
   (Zd (Zo 10 sc_law_names_by.nd (ZY (Jj (Zf 5) (ZY (Jk (Zf 0) Zc) Zc)) (JT Zc (Jt rfl ZA (Zg (Zf 3) Za)))))
   (Zh (Ja (Zed (Zf 8) (Zg (ZpC (ZoY JR (Zg (Zf 9) Za)) (Zp8 JR (Zf 10))) Za)))))))))
   (Zh (Zy (Zf 8))))))))))), ?_⟩
 rw [show Zu ["_law_cell", "_law_many", "_law_some", "_law_word", "_law_rest", "_law_k", "_law_spot", "_law_at", "_law_names", "_law_made", "_law_more"] [.int c, .int m] = [some (.int c), some (.int m), none, none, none, none, none, none, none, none, none] from rfl]
 walk_at "rd"
 simp only [Zb3]
 walk_at "rd"
 intro p H1 hp s1 e1
 have hc8 : 0 <= c % 8 /\ c % 8 < 8 := ⟨by omega, by omega⟩
 refine ⟨by omega, by omega, ?_⟩
 refine ZcV (Zsj H c m p) ⟨c / 64, none, [], rfl, s1, e1, rfl, λz hz => by cases hz⟩ (λi Z H2 hi hP => ?_) (λZ H2 hP => ?_)
 ·obtain ⟨r, o, ss, rfl, s2, e2, hl, h1⟩ := hP
  obtain ⟨ch, hch⟩ := ZmD (i := r % 26) (by omega) (by omega)
  walk_at "rd"
  simp only [e2]
  walk_at "rd"
  refine ⟨by rw [Zip]; decide, ch, hch, by simp; omega, _, _, ss ++ [⟨#[ch]⟩], rfl, Zr hp s2, by rw [upd_same]; simp, by simp [hl], λz hz => ?_⟩
  rcases Yu.mp hz with z1 | z1
  ·exact h1 z z1
  ·rw [YB.mp z1]; rfl
 ·obtain ⟨r, o, ss, rfl, s2, e2, hl, h1⟩ := hP
  walk_at "rd"
  simp only [e2]
  walk_at "rd"
  have hl2 : (ss.length : Int) = 1 + c % 8 := by omega
  rw [Yg]
  have hpos : 0 < (ss.length : Int) := by omega
  have g0 := YT (c / 8) (b := (ss.length : Int)) (by omega)
  have g1 := Y1 (c / 8) hpos
  obtain ⟨k, ek⟩ : ∃ k : Nat, c / 8 % (ss.length : Int) = (k : Int) := ⟨(c / 8 % (ss.length : Int)).toNat, by omega⟩
  rw [ek]
  have hk : k < ss.length := by omega
  refine ⟨hpos, V.str ss[k], ZP (by rw [Yi, Yc hk]; rfl), _, rfl, λpn H3 hpn s3 e3 => ?_⟩
  generalize Txt.find _ _ = at0
  have hne : p ≠ pn := Zp e2 hpn
  simp only [Zb3]
  walk_at "rd"
  refine ⟨by omega, by omega, ?_⟩
  refine ZcV (Zsm H c m k p pn ss) ⟨_, at0, _, _, _, [], rfl, s2.trans s3, s3 _ _ e2, e3, rfl, λz hz => by cases hz⟩ (λi Z H4 hi hP => ?_) (λZ H4 hP => ?_)
  ·obtain ⟨r, a0, o1, o2, o3, ns, rfl, s4, e4, e5, hns, hn8⟩ := hP
   obtain ⟨ch, hch⟩ := ZmD (i := a0 % 26) (by omega) (by omega)
   walk_at "rd"
   simp only [Zh6]
   walk_at "rd"
   refine ⟨_, .inl (.of e4), λpm H5 hpm s5 e6 => ?_⟩
   have hpm2 : pm ≠ p := λz => by rw [z, e4] at hpm; cases hpm
   have hpm3 : pm ≠ pn := λz => by rw [z, e5] at hpm; cases hpm
   refine ⟨by rw [Zip]; decide, ch, hch, _, e6, k, ZgA (by simpa using hk), λpl H6 hpl s6 e7 => ⟨_, e7, ?_⟩⟩
   have hmap : (ss.map V.str).set k (V.str ⟨#[ch]⟩) = (ss.set k ⟨#[ch]⟩).map V.str := by rw [List.map_set]
   rw [hmap] at s6 hpl
   have h1' : Zrr (ss.set k ⟨#[ch]⟩) := λz hz => by
    rcases List.mem_or_eq_of_mem_set hz with z1 | z1
    ·exact h1 z z1
    ·rw [z1]; rfl
   have hsum := Zhc h1'
   have hsl : (ss.set k ⟨#[ch]⟩).length = ss.length := List.length_set
   have kp : ∀ b o, b ≠ pm -> H5 b = some o -> H6 b = some o := λb o hb e => s6 _ _ (by rw [Ze hb]; exact e)
   have e8 : H6 pm = some (.lst ((ss.set k ⟨#[ch]⟩).map V.str)) := s6 _ _ upd_same
   have e9 : H6 p = some (.lst (ss.map V.str)) := kp _ _ (Ne.symm hpm2) (s5 _ _ e4)
   have e10 : H6 pn = some (.lst (ns.map V.str)) := kp _ _ (Ne.symm hpm3) (s5 _ _ e5)
   obtain ⟨v, hv, hvm⟩ := ZoA (xs := [V.int 1, V.int 25]) (i := c / 512 % 2) (by omega) (by show c / 512 % 2 < 2; omega)
   have hvi : ∃ x, v = V.int x := by
    simp only [List.mem_cons, List.not_mem_nil, or_false] at hvm
    rcases hvm with rfl | rfl
    ·exact ⟨_, rfl⟩
    ·exact ⟨_, rfl⟩
   obtain ⟨x, rfl⟩ := hvi
   refine ⟨_, hv, x, rfl, CMul.ok (.inr ⟨by omega, by omega⟩), _, .inl e9, by rw [List.length_map]; omega, ⟨_, e10⟩, _, e8, by decide, by rw [hsum, hsl]; omega, by decide, ?_, _, e10, by rw [List.length_map]; omega, _, _, _, _, _, ns ++ [_], rfl, Zr (s2.free hpn) ?_, by rw [Ze hne]; exact e9, by rw [upd_same, List.map_append]; rfl, by simp [hns], λz hz => ?_⟩
   ·refine Yh (Nat.add_le_add (ZgR _ _) (Txt.slice_le _ _ _)) ?_
    rw [hsum, hsl]
    rw [show (Str.ofString "").length = 0 from rfl, show (Str.ofString "qqqqqqq").length = 7 by decide +kernel, Nat.mul_zero, Nat.add_zero]
    exact Yh (show ss.length + 7 <= 1000 by omega) (by decide)
   ·exact λb o e => kp _ _ (Zp (s4 _ _ e) hpm) (s5 _ _ (s4 _ _ e))
   ·rcases Yu.mp hz with hz | hz
    ·exact hn8 z hz
    ·rw [YB.mp hz]
     rw [Yg]
     have m0 := YT ((i : Int) * (c / 1024 % 2)) (b := 9 - (ss.length : Int)) (by omega)
     have m1 := Y1 ((i : Int) * (c / 1024 % 2)) (b := 9 - (ss.length : Int)) (by omega)
     obtain ⟨mm, em⟩ : ∃ mm : Nat, (i : Int) * (c / 1024 % 2) % (9 - (ss.length : Int)) = (mm : Int) := ⟨_, (V5 m0).symm⟩
     rw [em]
     rw [em] at m1
     have h7 := Zo4 mm (by omega)
     have h8 := ZgR (Str.ofString "") (ss.set k ⟨#[ch]⟩)
     rw [hsum, hsl, show (Str.ofString "").length = 0 from rfl, Nat.mul_zero, Nat.add_zero] at h8
     have h9 : ∀ a b : Str, (a ++ b).length = a.length + b.length := λa b => Array.size_append ..
     rw [h9]
     omega
  ·obtain ⟨r, a0, o1, o2, o3, ns, rfl, s4, e4, e5, hns, hn8⟩ := hP
   walk_at "rd"
   exact q pn H4 ns (s2.free hpn) s4 e5 (by omega) hn8
def HomesV (kvs : List (ZC × V)) (n : Nat) : Prop := ∀ kv ∈ kvs, ∃ (z : Str) (h : Nat), kv = (Sum.inr z, .int (h : Int)) /\ h <= n
def HomesV.put {kvs : List (ZC × V)} {n : Nat} (h : HomesV kvs n) {z : Str} {k : Nat} (hk : k <= n) : HomesV (Jf kvs (Sum.inr z) (.int (k : Int))) n := by
 unfold Jf
 split
 ·intro kv hkv
  obtain ⟨kv', h1, rfl⟩ := Yk.mp hkv
  split
  ·rename_i e
   exact ⟨z, k, by rw [e], hk⟩
  ·exact h _ h1
 ·intro kv hkv
  rcases Yu.mp hkv with h1 | h1
  ·exact h _ h1
  ·rw [YB.mp h1]
   exact ⟨z, k, rfl, hk⟩
def Zi2 {kvs : List (ZC × V)} (h : (kvs.map (·.1)).Nodup) (k : ZC) (v : V) : ((Jf kvs k v).map (·.1)).Nodup := by
 unfold Jf
 split
 ·rw [Yv]
  have : ((λkv : ZC × V => kv.1) ∘ λkv => if kv.1 = k then (kv.1, v) else kv) = λkv => kv.1 := by
   funext kv
   show (if kv.1 = k then (kv.1, v) else kv).1 = kv.1
   split <;> rfl
  rw [this]
  exact h
 ·rename_i c
  rw [YW]
  refine List.nodup_append.mpr ⟨h, by simp, λx hx y hy => ?_⟩
  simp only [List.map_cons, List.map_nil, List.mem_singleton] at hy
  subst hy
  intro e
  subst e
  obtain ⟨kv, h1, h2⟩ := Yk.mp hx
  exact c (List.any_eq_true.mpr ⟨kv, h1, by rw [h2]; simp⟩)
def ZlB {kvs : List (ZC × V)} {k : ZC} {v : V} {kv : ZC × V} (h : kv ∈ Jf kvs k v) : kv.1 = k \/ ∃ kv2 ∈ kvs, kv2.1 = kv.1 := by
 unfold Jf at h
 split at h
 ·obtain ⟨kv2, h1, rfl⟩ := Yk.mp h
  refine .inr ⟨kv2, h1, ?_⟩
  show kv2.1 = (if kv2.1 = k then (kv2.1, v) else kv2).1
  split <;> rfl
 ·rcases Yu.mp h with h | h
  ·exact .inr ⟨kv, h, rfl⟩
  ·exact .inl (by rw [YB.mp h])
def Zfr (K : PySem.W.Frag) : Sp := λvs H Q _ => ∃ (a : Addr) (ns : List Int) (n : Nat) (most : Int), vs = [.ref a, .int ((n : Int) + 1), .int most] /\ SqL K H a (ns.map V.int) /\ 0 <= most /\ most < 90 /\
 ∀ p H' kvs o, H p = none -> Same H H' -> H' p = some (.frz o (.dK kvs)) -> HomesV kvs n -> (kvs.map (·.1)).Nodup -> (kvs.length : Int) <= most -> (∀ kv ∈ kvs, ∀ z, kv.1 = Sum.inr z -> z.length <= 8) -> Q (.ref p) H'
def Phm (H0 : Hp) (a p pn : Addr) (n : Nat) (most hd : Int) (ss : List Str) (nums : List Int) (pq : Addr) (i : Nat) (Z : St) (H : Hp) : Prop := ∃ (o1 o2 : Option V) (kvs : List (ZC × V)), Z = [some (.ref a), some (.int ((n : Int) + 1)), some (.int most), some (.int hd), some (.ref pn), some (.ref p), o1, o2] /\ Same H0 H /\ H p = some (.dK kvs) /\ HomesV kvs n /\ (kvs.map (·.1)).Nodup /\ kvs.length <= i /\ (∀ kv ∈ kvs, ∃ z ∈ ss, kv.1 = Sum.inr z) /\
 H pn = some (.lst (ss.map V.str)) /\ H pq = some (.lst (nums.map V.int))
def Zkh (F : Fun K "_law_homes_by" "_law_homes_by" ZaV f fd) (ZhF : mg "zip" = none) (ZA : mg "len" = none) (Zv : Fn P w K mg base Zx 1 "_law_cell_at" ["_law_script", "_law_k"] (Za6 K)) (ZaU : Fn P w K mg base Zx 1 "_law_names_by" ["_law_cell", "_law_many"] Zeq)
  (ZE : Fn P w K mg base Zx 2 "_law_numbers" ["_law_cell", "_law_many", "_law_most"] Zat) : FnOk P w K mg base Zx 3 f fd ["_law_script", "_law_many", "_law_most"] (Zfr K) := by
 refine JN F sc_law_homes_by (λvs H Q E h => ?_) (λcdv A outer s H vs Q E hr h => ?_)
 ·obtain ⟨a, ns, n, most, rfl, _⟩ := h; rfl
 obtain ⟨a, ns, n, most, rfl, hS, hm0, hm1, q⟩ := h
 refine ⟨_, (Zd (Zo 3 sc_law_homes_by.nd (ZB Zv hr (by decide) rfl (Zg (Zf 0) (Zg Zc Za))))
   (Zd (Zo 4 sc_law_homes_by.nd (ZB ZaU hr (by decide) rfl (Zg (ZfY (Zf 3) (Jg (Zf 2) Zc)) (Zg (ZY (Zf 3) (Jg (Zf 2) Zc)) Za))))
   (Zd (Zo 5 sc_law_homes_by.nd ZmO)
   (Zd (Jr YC (Zpl rfl ZhF (Zg (Zf 4) (Zg (ZB ZE hr (by decide) rfl (Zg (ZB Zv hr (by decide) rfl (Zg (Zf 0) (Zg Zc Za))) (Zg (Jt rfl ZA (Zg (Zf 4) Za)) (Zg Zc Za)))) Za))) (Zhz (n := 2) (Jh (Zw 6 sc_law_homes_by.nd) (Jh (Zw 7 sc_law_homes_by.nd) Zd6))) (Zh (Zcv (Jm hr) (Zf 5) (Zf 6) (ZY (Zf 7) (Zf 1)))))
   (Zq9 5 (Zh (Zy (Zf 5)))))))), ?_⟩
 rw [show Zu ["_law_script", "_law_many", "_law_most", "_law_head", "_law_names", "_law_homes", "_law_name", "_law_number"] [.ref a, .int ((n : Int) + 1), .int most] = [some (.ref a), some (.int ((n : Int) + 1)), some (.int most), none, none, none, none, none] from rfl]
 walk_at "rd"
 simp only [Za6, Zeq, Zat, ZgX]
 walk_at "rd"
 have g0 := YT (cellOf ns 4) (b := most + 1) (by omega)
 have g1 := Y1 (cellOf ns 4) (b := most + 1) (by omega)
 refine ⟨ns, 4, rfl, hS, by omega, Yz (Nat.log2_le_self _) (by omega), by omega, g0, by omega, λpn H1 ss hpn s1 e1 hsl hs8 p H2 hp s2 e2 => ?_⟩
 refine ⟨a, ns, 5, rfl, (s1.trans s2).seq hS, _, .inl (s2 _ _ e1), _, _, _, rfl, by omega, by rw [Yg]; omega, by decide, by decide, λpq H3 nums hpq s3 e3 hnl hnb => ?_⟩
 rw [Yg] at hnl
 have hpp : p ≠ pn := λz => by rw [z, e1] at hp; cases hp
 have hpqp : pq ≠ p := λz => by rw [z, e2] at hpq; cases hpq
 have hfr : H p = none := s1.free hp
 refine Zjx (xs := ss.map V.str) (ys := nums.map V.int) (by simp; omega) (Phm H a p pn n most (cellOf ns 4) ss nums pq) ⟨_, _, [], rfl, s1.trans (s2.trans s3), s3 _ _ e2, (λkv hkv => by cases hkv), List.nodup_nil, Nat.le_refl _, (λkv hkv => by cases hkv), (s2.trans s3) _ _ e1, e3⟩
  (λi Z H4 _ ⟨_, _, _, _, _, _, _, _, _, _, g1, g2⟩ => ⟨.of g1, .of g2⟩) (λi x y Z H4 pt H5 hx hy hP hpt s5 e5 => ?_) (λZ H4 hP => ?_)
 ·obtain ⟨o1, o2, kvs, rfl, s4, e4, hH, hN, hkl, hmm, g3, g4⟩ := hP
  obtain ⟨z, hzi, rfl⟩ : ∃ z, ss[i]? = some z /\ x = V.str z := by rw [Yi] at hx; cases h : ss[i]? with | none => rw [h] at hx; cases hx | some z => rw [h] at hx; cases hx; exact ⟨z, rfl, rfl⟩
  obtain ⟨v, rfl⟩ : ∃ v, y = V.int v := by rw [Yi] at hy; cases h : nums[i]? with | none => rw [h] at hy; cases hy | some z => rw [h] at hy; cases hy; exact ⟨z, rfl⟩
  have hi : i < ss.length := by have := (List.getElem?_eq_some_iff.mp hx).1; simpa using this
  walk_at "rd"
  have w0 := YT v (b := (n : Int) + 1) (by omega)
  have w1 := Y1 v (b := (n : Int) + 1) (by omega)
  obtain ⟨k, ek⟩ : ∃ k : Nat, v % ((n : Int) + 1) = (k : Int) := ⟨(v % ((n : Int) + 1)).toNat, by omega⟩
  refine ⟨_, e5, rfl, _, _, rfl, _, _, rfl, rfl, v, rfl, by omega, kvs, s5 _ _ e4, .inr z, rfl, by omega, _, _, Jf kvs (.inr z) (.int (v % ((n : Int) + 1))), rfl, Zr hfr (s4.trans s5), upd_same, ?_, Zi2 hN _ _, Yh (ZbQ _ _ _) (by omega), (λkv hkv => by rcases ZlB hkv with h | ⟨kv2, h1, h2⟩; exact ⟨z, Yq hzi, h⟩; rw [<- h2]; exact hmm kv2 h1), by rw [Ze (Ne.symm hpp)]; exact s5 _ _ g3, by rw [Ze hpqp]; exact s5 _ _ g4⟩
  rw [ek]
  exact hH.put (by omega)
 ·obtain ⟨o1, o2, kvs, rfl, s4, e4, hH, hN, hkl, hmm, g3, g4⟩ := hP
  refine ⟨p, kvs, rfl, e4, λob => ?_⟩
  walk_at "rd"
  exact q p _ kvs ob hfr (Zr hfr s4) upd_same hH hN (by rw [Yg] at hkl; omega) (λkv hkv z e => by obtain ⟨z2, h1, h2⟩ := hmm kv hkv; rw [h2] at e; cases e; exact hs8 _ h1)
end
def Zbj (kvs : List (ZC × V)) (ss : List Str) (hs : List Nat) (n : Nat) : Prop := ss.length = hs.length /\ ∀ (i : Nat) z h, ss[i]? = some z -> hs[i]? = some h -> Jw kvs (Sum.inr z) = some (.int (h : Int)) /\ h <= n
def Jl (rs : List (Nat × Rat)) (hs : List Nat) (k : Nat) : Prop := ∃ h ∈ hs, ∃ w, WayR rs h w /\ k ∈ w
def Zcj {H H' : Hp} {a : Addr} {u : HO} (h : Rd H a u) (s : Same H H') : Rd H' a u := h.elim (λe => .inl (s _ _ e)) λ⟨o, e⟩ => .inr ⟨o, s _ _ e⟩
def ZjQ {rs : List (Nat × Rat)} {hs : List Nat} {i h : Nat} {w : List Nat} (hh : hs[i]? = some h) (hw : WayR rs h w) (k : Nat) : Jl rs (hs.take (i + 1)) k ↔ Jl rs (hs.take i) k \/ k ∈ w := by
 unfold Jl
 rw [Yw, hh]
 constructor
 ·rintro ⟨h', hm, w', hw', hk⟩
  rcases Yu.mp hm with hm | hm
  ·exact .inl ⟨h', hm, w', hw', hk⟩
  ·have e : h' = h := by simpa using hm
   subst e
   rw [hw.uniq hw'] at hk
   exact .inr hk
 ·rintro (⟨h', hm, w', hw', hk⟩ | hk)
  ·exact ⟨h', Vt _ hm, w', hw', hk⟩
  ·exact ⟨h, List.mem_append_right _ (by simp), w, hw, hk⟩
section
variable {P : Program} {w : World} {K : PySem.W.Frag} {mg : Str -> Option Value} {base : Heap} {f : Addr} {fd : FuncData} {CT CNP : Addr}
def Zc5 (C : Addr) : Sp := λvs H Q _ => ∃ (x : V) (rs : List (Nat × Rat)) (d g : Addr) (kvs : List (ZC × V)) (ss : List Str) (hs : List Nat), vs = [x, .ref d, .ref g] /\ TreeV C H x rs /\ Rd H d (.dK kvs) /\ H g = some (.lst (ss.map V.str)) /\ Zbj kvs ss hs rs.length /\ rs.length <= 40 /\ ss.length < 50 /\ ZbJ rs /\
 ∀ p H' (ks : List Nat), H p = none -> Same H H' -> H' p = some (.lst (ZN ks)) -> ks.Pairwise (· < ·) -> (∀ k, k ∈ ks ↔ Jl rs hs k) -> Q (.ref p) H'
def Pnd (H0 : Hp) (x : V) (d g l : Addr) (rs : List (Nat × Rat)) (hs : List Nat) (i : Nat) (Z : St) (H : Hp) : Prop := ∃ (o : Option V) (acc : List Nat), Z = [some x, some (.ref d), some (.ref g), some (.ref l), o] /\ Same H0 H /\ H l = some (.lst (ZN acc)) /\ acc.length <= 40 * i /\ ∀ k, k ∈ acc ↔ Jl rs (hs.take i) k
def ZiW (F : Fun K "needed" "needed" ZeU f fd) (ZT : mg "sorted" = none) (Zho : mg "set" = none) (Zhe : Mth P w K mg base Zx 3 CT "way" ["self", "k"] (λvs H Q _ => Zf5 CT CNP vs H Q E0)) : FnOk P w K mg base Zx 4 f fd ["tree", "homes", "group"] (Zc5 CT) := by
 refine JN F sc_needed (λvs H Q E h => ?_) (λcdv A outer s H vs Q E hr h => ?_)
 ·obtain ⟨x, rs, d, g, kvs, ss, hs, rfl, _⟩ := h; rfl
 obtain ⟨x, rs, d, g, kvs, ss, hs, rfl, hT, hd, hg, hH, hrl, hsl, hO, q⟩ := h
 refine ⟨_, (Zd (Zo 3 sc_needed.nd (JJ Za))
   (Zd (Jr YC (Ju (Zf 2)) (Zw 4 sc_needed.nd) (Zh (Ja (Zry (Zf 3) (Zg (ZbI Zhe hr (by decide) (Zf 0) (Zg (JC (Jm hr) (Zf 1) (Zf 4)) Za)) Za)))))
   (Zh (Zy (ZjT rfl ZT rfl Zho (Zg (Zf 3) Za)))))), ?_⟩
 rw [show Zu ["tree", "homes", "group", "roads", "name"] [x, .ref d, .ref g] = [some (x), some (.ref d), some (.ref g), none, none] from rfl]
 walk_at "rd"
 simp only [Za1]
 walk_at "rd"
 intro l H1 hl s1 e1
 refine ZbD (Pnd H x d g l rs hs) ⟨_, [], rfl, s1, e1, Nat.zero_le _, λk => ⟨(λz => by cases z), (λ⟨h, hm, _⟩ => by simp at hm)⟩⟩ (λi Z H' _ ⟨_, _, _, sm, _⟩ => .of (sm _ _ hg)) (λi y Z H' hi hP => ?_) (λZ H' hP => ?_)
 ·obtain ⟨o, acc, rfl, sm, e2, hal, hm⟩ := hP
  rw [Yi] at hi
  obtain ⟨z, hz, rfl⟩ : ∃ z, ss[i]? = some z /\ y = V.str z := by cases h : ss[i]? with | none => rw [h] at hi; cases hi | some z => rw [h] at hi; cases hi; exact ⟨z, rfl, rfl⟩
  have hi' : i < ss.length := (Yj.mp hz).1
  have hih : i < hs.length := by rw [<- hH.1]; exact hi'
  have hh := Yc hih
  obtain ⟨hv, hle⟩ := hH.2 i z _ hz hh
  obtain ⟨w0, hw0, hwl0⟩ := Zb4 hO hle
  walk_at "rd"
  obtain ⟨xa, dx, la, wa, ls, ws, rfl, h1, _⟩ := id (hT.same sm)
  refine ⟨⟨_, e2⟩, xa, rfl, dx, _, h1, rfl, kvs, Zcj hd sm, .inr z, rfl, _, hv, .ref xa, rs, _, rfl, hT.same sm, λp H2 k' w1 ek hp s2 e3 hw1 hwl1 => ?_, λzz => absurd ⟨by omega, by omega⟩ zz⟩
  have ek' : hs[i] = k' := by omega
  subst ek'
  have ew := hw0.uniq hw1
  subst ew
  refine ⟨p, rfl, _, s2 _ _ e2, _, e3, ?_, _, acc ++ w1, rfl, Zr hl (sm.trans s2), by rw [upd_same]; simp [ZN], by simp; omega, λk => ?_⟩
  ·exact Nat.le_trans (show _ <= 10000 by simp [ZN]; omega) (by decide)
  ·rw [ZjQ hh hw0 k, Yu, hm k]
 ·obtain ⟨o, acc, rfl, sm, e2, hal, hm⟩ := hP
  walk_at "rd"
  have hss : ss.length = hs.length := hH.1
  rw [Yg, hss, YE] at hm
  have hbd : ∀ k ∈ acc, 1 <= k /\ k <= rs.length := λk hk => by
   obtain ⟨h, _, w0, hw, hk2⟩ := (hm k).mp hk
   exact hw.mem k hk2
  refine ⟨acc.map Int.ofNat, by rw [e2]; simp [ZN], by simp at hal ⊢; omega, λk hk => ?_, λp H2 ks hp s2 e3 hpw hmem => ?_⟩
  ·obtain ⟨k', hk', rfl⟩ := Yk.mp hk
   have := hbd k' hk'
   show 0 <= (k' : Int) /\ (k' : Int) < 60
   omega
  ·have hnat : ∀ k ∈ ks, 0 <= k := λk hk => by
    obtain ⟨k', _, rfl⟩ := Yk.mp ((hmem k).mp hk)
    exact Int.natCast_nonneg k'
   have eks : (ks.map Int.toNat).map Int.ofNat = ks := by
    rw [Yv]
    conv => rhs; rw [<- List.map_id ks]
    exact YO λk hk => V5 (hnat k hk)
   refine q p H2 (ks.map Int.toNat) (sm.free hp) (sm.trans s2) ?_ ?_ λk => ?_
   ·rw [e3]
    conv => lhs; rw [<- eks]
    simp [ZN]
   ·rw [Vx]
    exact hpw.imp_of_mem λha hb h => by have := hnat _ ha; have := hnat _ hb; omega
   ·rw [<- hm k]
    constructor
    ·intro h
     obtain ⟨k', hk', rfl⟩ := Yk.mp h
     obtain ⟨k2, hk2, e⟩ := Yk.mp ((hmem k').mp hk')
     have : k'.toNat = k2 := by rw [<- e]; rfl
     rw [this]
     exact hk2
    ·intro h
     exact Yk.mpr ⟨(k : Int), (hmem _).mpr (Yk.mpr ⟨k, h, rfl⟩), rfl⟩
def Zl (rs : List (Nat × Rat)) (k : Nat) : Rat := ((rs[k - 1]?).map (·.2)).getD 0
def ZoP (rs : List (Nat × Rat)) (ks : List Nat) : Rat := Zkv (ks.map (Zl rs)) ks.length
theorem RatsV.keep {H H' : Hp} {xs : List V} {qs : List Rat} (h : RatsV H xs qs) (s : ∀ b ys, H b = some (.tup ys) -> H' b = some (.tup ys)) : RatsV H' xs qs := ⟨h.1, λi x q h1 h2 => (h.2 i x q h1 h2).keep s⟩
theorem RatsV.snoc {H : Hp} {xs : List V} {qs : List Rat} {x : V} {q : Rat} (h : RatsV H xs qs) (hx : RatV H x q) : RatsV H (xs ++ [x]) (qs ++ [q]) := ⟨by simp [h.1], λi y r h1 h2 => by
 by_cases c : i < xs.length
 ·rw [Va c] at h1
  rw [Va (by rw [<- h.1]; exact c)] at h2
  exact h.2 i y r h1 h2
 ·have hi : i = xs.length := by have := (List.getElem?_eq_some_iff.mp h1).1; simp at this; omega
  subst hi
  rw [YX (Yd _)] at h1
  rw [h.1, YX (Yd _)] at h2
  simp at h1 h2
  subst h1
  subst h2
  exact hx⟩
theorem Zih {qs : List Rat} {n : Nat} (hn : qs.length = n) (h : ∀ (i : Nat) q, qs[i]? = some q -> SzQ 110 q) : ∀ i, i <= n -> SzQ (111 * i + 1) (Zkv qs i) := by
 intro i
 induction i with
 | zero => intro _; exact Zee (by decide)
 | succ i ih =>
  intro hi
  have e := Yc (show i < qs.length by omega)
  rw [Zdk e]
  exact (ih (by omega)).add (h i _ e) (by omega)
def ZmB {ks : List Nat} {n : Nat} (h : ks.Pairwise (· < ·)) (hb : ∀ k ∈ ks, 1 <= k /\ k <= n) : ks.length <= n := by
 have hs : ks ⊆ List.range' 1 n := λk hk => by
  obtain ⟨h1, h2⟩ := hb k hk
  exact VM.mpr ⟨h1, by omega⟩
 have hn : ks.Nodup := h.imp λh e => by rw [e] at h; exact YF _ h
 have := V1 hn hs
 simpa using this
def ZeJ (C : Addr) : Sp := λvs H Q _ => ∃ (x : V) (rs : List (Nat × Rat)) (d g : Addr) (kvs : List (ZC × V)) (ss : List Str) (hs : List Nat), vs = [x, .ref d, .ref g] /\ TreeV C H x rs /\ Rd H d (.dK kvs) /\ H g = some (.lst (ss.map V.str)) /\ Zbj kvs ss hs rs.length /\ rs.length <= 20 /\ ss.length < 50 /\ ZbJ rs /\ (∀ r ∈ rs, SzQ 110 r.2) /\
 ∀ r H' (ks : List Nat), Same H H' -> ks.Pairwise (· < ·) -> (∀ k, k ∈ ks ↔ Jl rs hs k) -> RatV H' r (ZoP rs ks) -> SzQ 2300 (ZoP rs ks) -> Q r H'
def Zny (F : Fun K "cost" "cost" Zjy f fd) (Zao : Fn P w K mg base Zx 4 "total_of" ["some"] (ZcM K)) (ZbC : Fn P w K mg base Zx 4 "needed" ["tree", "homes", "group"] (Zc5 CT))
  (ZbM : Mth P w K mg base Zx 4 CT "price" ["self", "k"] (λvs H Q _ => Zdl CT CNP vs H Q E0)) : FnOk P w K mg base Zx 5 f fd ["tree", "homes", "group"] (ZeJ CT) := by
 refine JN F ZnU (λvs H Q E h => ?_) (λcdv A outer s H vs Q E hr h => ?_)
 ·obtain ⟨x, rs, d, g, kvs, ss, hs, rfl, _⟩ := h; rfl
 obtain ⟨x, rs, d, g, kvs, ss, hs, rfl, hT, hd, hg, hH, hrl, hsl, hO, hz, q⟩ := h
 refine ⟨_, (Zh (Zy (ZB Zao hr (by decide) rfl (Zg (ZgU (ZlK ["k"] [0] ["tree"]) (Ju (ZB ZbC hr (by decide) rfl (Zg (Zf 0) (Zg (Zf 1) (Zg (Zf 2) Za))))) (by exact λs H fp => (Zw 0 (show List.Nodup (["k", "tree"] : List Str) from by decide +kernel))) (by exact λs H fp => (ZbI ZbM hr (by decide) (Zf 1) (Zg (Zf 0) Za)))) Za)))), ?_⟩
 rw [show Zu ["tree", "homes", "group"] [x, .ref d, .ref g] = [some (x), some (.ref d), some (.ref g)] from rfl]
 walk_at "rd"
 simp only [JS, Zef, cxK]
 walk_at "rd"
 refine ⟨x, rs, d, g, kvs, ss, hs, rfl, hT, hd, hg, hH, by omega, hsl, hO, λp H1 ks hp s1 e1 hpw hmem => ⟨p, rfl, ⟨_, .of e1⟩, ?_⟩⟩
 rw [show Jn [some x, some (V.ref d), some (V.ref g)] [0] = [some x] from rfl]
 have hbd : ∀ k ∈ ks, 1 <= k /\ k <= rs.length := λk hk => by
  obtain ⟨h, _, w0, hw, hk2⟩ := (hmem k).mp hk
  exact hw.mem k hk2
 have hkl := ZmB hpw hbd
 unfold Zod
 refine ZcN (xs := ZN ks) (λacc i ys H' => Same H1 H' /\ H' acc = some (.lst ys) /\ RatsV H' ys ((ks.take i).map (Zl rs)) /\ i <= ks.length)
  (λacc H2 hn sm e => ⟨sm, e, by simpa using ZkE, Nat.zero_le _⟩) (λacc i ys H2 hn ⟨sm, e, hR, hi⟩ => ⟨e, by rw [hR.1]; simp; omega, .of (sm _ _ e1)⟩) (λacc i y ys H2 os hn hi hP ol => ?_) (λacc ys H2 hn hP => ?_)
 ·obtain ⟨sm, e, hR, _⟩ := hP
  obtain ⟨o, rfl⟩ : ∃ o, os = [o] := by match os, ol with | [o], _ => exact ⟨o, rfl⟩
  have hil : i < ks.length := by have := (List.getElem?_eq_some_iff.mp hi).1; simpa [ZN] using this
  have hk := Yc hil
  have hy : y = V.int (ks[i] : Int) := by
   unfold ZN at hi
   rw [Yi, hk] at hi
   cases hi
   rfl
  subst hy
  obtain ⟨k1, k2⟩ := hbd _ (YI hil)
  have hT2 := hT.same (s1.trans sm)
  obtain ⟨xa, dx, la, wa, ls, ws, rfl, h1, _⟩ := id hT2
  walk_at "rd"
  refine ⟨[some (.int (ks[i] : Int))], rfl, rfl, ?_⟩
  simp only [Zmw]
  walk_at "rd"
  refine ⟨dx, _, h1, rfl, .ref xa, rs, _, rfl, hT2, λk' r y ek hr2 hy => ⟨e, Zr hn sm, upd_same, ?_, hil⟩, λzz => absurd ⟨by omega, by omega⟩ zz⟩
  have ek' : ks[i] - 1 = k' := by omega
  have kp : ∀ b zs, H2 b = some (.tup zs) -> upd H2 acc (.lst (ys ++ [y])) b = some (.tup zs) := λb zs e' => by rw [Ze (Jc e' e (by intro z; cases z))]; exact e'
  have hpr : Zl rs ks[i] = r.2 := by unfold Zl; rw [ek', hr2]; rfl
  rw [Yw, hk, YW]
  refine (hR.keep kp).snoc ?_
  show RatV _ y (Zl rs ks[i])
  rw [hpr]
  exact hy.keep kp
 ·obtain ⟨sm, e, hR, _⟩ := hP
  have hnl : (ZN ks).length = ks.length := by simp [ZN]
  rw [hnl, YE] at hR
  have hq : ∀ (i : Nat) q, (ks.map (Zl rs))[i]? = some q -> SzQ 110 q := λi q hq => by
   rw [Yi] at hq
   cases hk : ks[i]? with
   | none => rw [hk] at hq; cases hq
   | some k =>
    rw [hk] at hq
    cases hq
    obtain ⟨k1, k2⟩ := hbd k (Yq hk)
    have hlt : k - 1 < rs.length := by omega
    show SzQ 110 (Zl rs k)
    unfold Zl
    rw [Yc hlt]
    exact hz _ (YI hlt)
  have hps : ∀ i, i <= ks.length -> SzQ (111 * i + 1) (Zkv (ks.map (Zl rs)) i) := Zih (by simp) hq
  refine ⟨acc, ys, ks.map (Zl rs), rfl, .of e, hR, Znm hq (by rw [Yg]; omega), by rw [Yg]; omega, λr H' s3 v => ?_⟩
  rw [Yg] at v
  exact q r H' ks (s1.trans (sm.trans s3)) hpw hmem v ((hps _ (Yd _)).mono (by omega))
def Zh1 (F : Fun K "cost_of_all" "cost_of_all" Zbh f fd) (ZH : mg "list" = none) (Ziw : Fn P w K mg base Zx 5 "cost" ["tree", "homes", "group"] (ZeJ CT)) : FnOk P w K mg base Zx 6 f fd ["tree", "homes"] (λvs H Q E => ∃ (x : V) (d : Addr) (kvs : List (ZC × V)), vs = [x, .ref d] /\ Rd H d (.dK kvs) /\ ∀ g H', H g = none -> Same H H' -> H' g = some (.lst (kvs.map λkv => kV kv.1)) -> ZeJ CT [x, .ref d, .ref g] H' Q E) := by
 refine JN F ZdU (λvs H Q E h => ?_) (λcdv A outer s H vs Q E hr h => ?_)
 ·obtain ⟨x, d, kvs, rfl, _⟩ := h; rfl
 obtain ⟨x, d, kvs, rfl, hd, q⟩ := h
 refine ⟨_, (Zh (Zy (ZB Ziw hr (by decide) rfl (Zg (Zf 0) (Zg (Zf 1) (Zg (ZfU rfl ZH (Zg (Zf 1) Za)) Za)))))), ?_⟩
 rw [show Zu ["tree", "homes"] [x, .ref d] = [some (x), some (.ref d)] from rfl]
 walk_at "rd"
 exact ⟨d, kvs, rfl, hd, λg H' hg s e => q g H' hg s e⟩
end
def Z0 {rs : List (Nat × Rat)} {hs : List Nat} {k : Nat} (h : Jl rs hs k) : 1 <= k /\ k <= rs.length := by
 obtain ⟨_, _, _, hw, hk⟩ := h
 exact hw.mem k hk
def ZnN {z : Str} {ss : List Str} : inV (V.str z) (ss.map V.str) = decide (z ∈ ss) := by
 unfold inV
 rw [List.any_map]
 induction ss with
 | nil => simp
 | cons y ss ih =>
  rw [VW, ih]
  show ((y == z) || _) = _
  by_cases c : y = z
  ·subst c; simp
  ·have : (y == z) = false := by simpa using c
   rw [this, Bool.false_or]
   simp [Ne.symm c]
def Zj1 (ss : List Str) : (ss.map V.str).all JL = true := by
 rw [List.all_eq_true]
 intro x hx
 obtain ⟨z, _, rfl⟩ := Yk.mp hx
 rfl
def ZkX {kvs : List (ZC × V)} {n : Nat} {ss : List Str} (hk : ∀ z ∈ ss, ∃ k : Nat, Jw kvs (Sum.inr z) = some (.int (k : Int)) /\ k <= n) : ∃ hf : Str -> Nat, ∀ gs : List Str, (∀ z ∈ gs, z ∈ ss) -> Zbj kvs gs (gs.map hf) n := by
 classical
 refine ⟨λz => if h : z ∈ ss then (hk z h).choose else 0, λgs hg => ⟨by simp, λi z h h1 h2 => ?_⟩⟩
 have hz := hg z (Yq h1)
 rw [Yi, h1] at h2
 simp only [Option.map_some, Option.some.injEq] at h2
 rw [dif_pos hz] at h2
 subst h2
 exact (hk z hz).choose_spec
def Zmh {rs : List (Nat × Rat)} {hf : Str -> Nat} {gs : List Str} {k : Nat} : Jl rs (gs.map hf) k ↔ ∃ z ∈ gs, ∃ w, WayR rs (hf z) w /\ k ∈ w := by
 unfold Jl
 constructor
 ·rintro ⟨h, hm, w⟩
  obtain ⟨z, hz, rfl⟩ := Yk.mp hm
  exact ⟨z, hz, w⟩
 ·rintro ⟨z, hz, w⟩
  exact ⟨_, Yk.mpr ⟨z, hz, rfl⟩, w⟩
def ZX (qs : List Rat) : Rat := qs.foldl (· + ·) 0
def Zkp (qs : List Rat) : ∀ a : Rat, qs.foldl (· + ·) a = a + qs.foldl (· + ·) 0 := by
 induction qs with
 | nil => intro a; exact (Yaf a).symm
 | cons q qs ih =>
  intro a
  show qs.foldl (· + ·) (a + q) = a + qs.foldl (· + ·) (0 + q)
  rw [ih (a + q), ih (0 + q), Rat.zero_add, Vj]
def ZL (q : Rat) (qs : List Rat) : ZX (q :: qs) = q + ZX qs := by
 show qs.foldl (· + ·) (0 + q) = _
 rw [Rat.zero_add, Zkp]
 rfl
def Zdj {qs ps : List Rat} (h : qs.Perm ps) : ZX qs = ZX ps := by
 induction h with
 | nil => rfl
 | cons x _ ih => rw [ZL, ZL, ih]
 | swap x y l => rw [ZL, ZL, ZL, ZL, <- Vj, <- Vj, Rat.add_comm x y]
 | trans _ _ ih1 ih2 => exact ih1.trans ih2
def ZiQ {acc : List Nat} {n : Nat} (h : acc.Nodup) (hb : ∀ k ∈ acc, 1 <= k /\ k <= n) : acc.length <= n := by
 have hs : acc ⊆ List.range' 1 n := λk hk => by
  obtain ⟨h1, h2⟩ := hb k hk
  exact VM.mpr ⟨h1, by omega⟩
 have := V1 h hs
 simpa using this
section
variable {P : Program} {w : World} {K : PySem.W.Frag} {mg : Str -> Option Value} {base : Heap} {f : Addr} {fd : FuncData}
def Zf0 : Sp := λvs H Q _ => ∃ (x y : V) (p q : Rat), vs = [x, y] /\ RatV H x p /\ RatV H y q /\ SzQ 3000 p /\ SzQ 3000 q /\ ∀ r H', Same H H' -> RatV H' r (p + q) -> Q r H'
def Zom (F : Fun K "_law_add" "_law_add" Zdb f fd) (ZW : Fn P w K mg base Zx 1 "_law_low" ["_law_top", "_law_bottom"] ZbU) : FnOk P w K mg base Zx 2 f fd ["_law_one", "_law_other"] Zf0 := by
 refine JN F Zhn (λvs H Q E h => ?_) (λcdv A outer s H vs Q E hr h => ?_)
 ·obtain ⟨x, y, p, t, rfl, _⟩ := h; rfl
 obtain ⟨x, y, p, t, rfl, ⟨a, rfl, ha⟩, ⟨b, rfl, hb⟩, z1, z2, q⟩ := h
 refine ⟨_, (Zh (Zy (ZB ZW hr (by decide) rfl (Zg (Jg (Jj (ZI (Zf 0) Zc) (ZI (Zf 1) Zc)) (Jj (ZI (Zf 1) Zc) (ZI (Zf 0) Zc))) (Zg (Jj (ZI (Zf 0) Zc) (ZI (Zf 1) Zc)) Za))))), ?_⟩
 rw [show Zu ["_law_one", "_law_other"] [.ref a, .ref b] = [some (.ref a), some (.ref b)] from rfl]
 walk_at "rd"
 simp only [ha, hb, ZbU]
 walk_at "rd"
 have hp := p.den_pos
 have ht := t.den_pos
 refine ⟨JI z1.1 (Z4 z2) (by decide), JI z2.1 (Z4 z1) (by decide), JI (Z4 z1) (Z4 z2) (by decide), Big.of (Zaw (Z4 z1) (Z4 z2)) (by decide), Int.mul_pos (by omega) (by omega), λr H' hs v => q r H' hs ?_⟩
 rw [Zd9]
 exact v
end
def Zfg {a : Addr} {o : Obj} {kvs : List (ZC × V)} {ss : List Str} {cp : St} {tt : TT} {H1 : Hp} {Q : VK} (r : Str -> Bool) (ha : H1 a = some (.frz o (.dK kvs))) (he : (kvs.map λkv => kV kv.1) = ss.map V.str) (hl : ss.length < 1000) (ht : ∀ z ∈ ss, ∀ H' (k : Bool -> Hp -> Prop), Same H1 H' -> k (r z) H' -> tt (some (V.str z) :: cp) H' k)
  (q : ∀ p H', H1 p = none -> Same H1 H' -> H' p = some (.lst ((ss.filter r).map V.str)) -> Q (.ref p) H') : ZfC 1 cp (Itd a o kvs) (Jy 0) tt (Zoa 0) H1 Q := by
 have hlen : kvs.length = ss.length := by have := congrArg List.length he; simpa using this
 refine Zg0 (λacc i ys H' => Same H1 H' /\ H' acc = some (.lst ys) /\ ys = ((ss.take i).filter r).map V.str /\ i <= ss.length)
  (λacc H2 hn sm e => ⟨sm, e, by simp, Nat.zero_le _⟩) (λacc i ys H2 ⟨sm, e, e2, hi⟩ => ⟨e, ?_, sm _ _ ha⟩) (λacc i kv ys H2 os hn hi hP ol => ?_) (λacc ys H2 hn hP => ?_)
 ·rw [e2, Yg]
  exact Yz (YK _ _) (by rw [Y4]; omega)
 ·obtain ⟨sm, e, e2, _⟩ := hP
  obtain ⟨o', rfl⟩ : ∃ o', os = [o'] := by match os, ol with | [o'], _ => exact ⟨o', rfl⟩
  obtain ⟨z, hz, ek⟩ : ∃ z, ss[i]? = some z /\ kV kv.1 = V.str z := by
   have h1 := congrArg (·[i]?) he
   simp only [List.getElem?_map, hi, Option.map_some] at h1
   cases h : ss[i]? with
   | none => rw [h] at h1; cases h1
   | some z => rw [h] at h1; exact ⟨z, rfl, by simpa using h1⟩
  rw [ek]
  have hil := (Yj.mp hz).1
  refine ⟨[some (V.str z)], rfl, rfl, ht z (Yq hz) H2 _ sm ?_⟩
  have tk : (ss.take (i + 1)).filter r = (ss.take i).filter r ++ (if r z = true then [z] else []) := by
   rw [Yw, hz, VI]
   congr 1
   show [z].filter r = _
   by_cases c : r z = true
   ·rw [Yam c, if_pos c]; rfl
   ·rw [Yan c, if_neg c]; rfl
  refine JQ (λc => ⟨V.str z, rfl, e, Zr hn sm, upd_same, ?_, hil⟩) (λc => ⟨sm, e, ?_, hil⟩)
  ·rw [tk, if_pos c, e2, YW]; rfl
  ·rw [tk, if_neg c, Y7, e2]
 ·obtain ⟨sm, e, e2, _⟩ := hP
  rw [hlen, YE] at e2
  subst e2
  exact q acc H2 hn sm e
def Vil (kvs : List (ZC × V)) (ss : List Str) (hf : Str -> Nat) (n : Nat) : Prop := (kvs.map λkv => kV kv.1) = ss.map V.str /\ ss.length < 50 /\ ∀ z ∈ ss, Jw kvs (Sum.inr z) = some (.int (hf z : Int)) /\ hf z <= n
theorem Vil.of {kvs : List (ZC × V)} {ss : List Str} {hf : Str -> Nat} {n : Nat} (h1 : (kvs.map λkv => kV kv.1) = ss.map V.str) (hl : ss.length < 50) (h2 : ∀ gs : List Str, (∀ z ∈ gs, z ∈ ss) -> Zbj kvs gs (gs.map hf) n) : Vil kvs ss hf n :=
 ⟨h1, hl, λz hz => (h2 [z] (λy hy => by rw [YB.mp hy]; exact hz)).2 0 z (hf z) rfl rfl⟩
def Znw {rs : List (Nat × Rat)} {k h : Nat} (hh : h <= rs.length) : (h ∈ ben rs k) = (k ∈ wayL rs h) := by
 unfold ben
 rw [Yt, Vg]
 simp
 intro _
 omega
section
variable {P : Program} {w : World} {K : PySem.W.Frag} {mg : Str -> Option Value} {base : Heap} {f : Addr} {fd : FuncData} {CT CNP CNT CSE : Addr}
def Zgy (C CNP : Addr) : Sp := λvs H Q E => ∃ x rs d k, vs = [x, .ref d, .int k] /\ TreeV C H x rs /\ rs.length <= 100 /\
 (∀ k' : Nat, k = (k' : Int) -> inR rs k -> ∃ o kvs ss hf, H d = some (.frz o (.dK kvs)) /\ Vil kvs ss hf rs.length /\ ∀ p H' (ts : List Str), H p = none -> Same H H' -> H' p = some (.lst (ts.map V.str)) -> ts.Pairwise leS -> ts.Perm (ss.filter λz => decide (k' ∈ wayL rs (hf z))) -> Q (.ref p) H') /\ (¬ inR rs k -> E (.ref CNP) none H)
def Zl0 (F : Fun K "users" "users" ZfK f fd) (ZT : mg "sorted" = none) (Zdy : Mth P w K mg base Zx 4 CT "beneath" ["self", "k"] (λvs H Q _ => Zji CT CNP vs H Q E0)) : FnOk P w K mg base Zx 5 f fd ["tree", "homes", "k"] (λvs H Q _ => Zgy CT CNP vs H Q E0) := by
 refine JN F sc_users (λvs H Q E h => ?_) (λcdv A outer s H vs Q E hr h => ?_)
 ·obtain ⟨x, rs, d, k, rfl, _⟩ := h; rfl
 obtain ⟨x, rs, d, k, rfl, hT, hrl, q1, q2⟩ := h
 refine ⟨_, (Zd (Zo 3 sc_users.nd (ZbI Zdy hr (by decide) (Zf 0) (Zg (Zf 2) Za)))
   (Zh (Zy (Ze1 rfl ZT (Zg (Zf8 (ZlK ["name"] [1, 3] ["homes", "places"]) (ZgP (Zf 1)) (by exact λs H fp => (Zw 0 (show List.Nodup (["name", "homes", "places"] : List Str) from by decide +kernel))) (by exact λs H fp => ZgF (Ziu K (JC (Jm hr) (Zf 1) (Zf 0)) (Zf 2))) (by exact λs H fp => (Zf 0))) Za))))), ?_⟩
 rw [show Zu ["tree", "homes", "k", "places"] [x, .ref d, .int k] = [some (x), some (.ref d), some (.int k), none] from rfl]
 walk_at "rd"
 obtain ⟨a, dx, la, wa, ls, ws, rfl, h1, _⟩ := id hT
 refine ⟨a, rfl, dx, _, h1, rfl, .ref a, rs, k, rfl, hT, hrl, λp H1 k' ek hin hp s1 e1 => ?_, q2⟩
 obtain ⟨o, kvs, ss, hf, hd, hV, q⟩ := q1 k' ek hin
 simp only [ZcD, Zhi]
 walk_at "rd"
 refine ⟨o, kvs, s1 _ _ hd, ?_⟩
 subst ek
 rw [show Jn [some (V.ref a), some (V.ref d), some (V.int (k' : Int)), some (V.ref p)] [1, 3] = [some (V.ref d), some (V.ref p)] from rfl]
 refine Zfg (λz => decide (k' ∈ wayL rs (hf z))) (s1 _ _ hd) hV.1 (by have := hV.2.1; omega) (λz hz H' k sm hk => ?_) (λp2 H2 hp2 s2 e2 => ?_)
 ·obtain ⟨hv, hle⟩ := hV.2.2 z hz
  walk_at "rd"
  simp only [rIn]
  walk_at "rd"
  refine ⟨kvs, .inr ⟨o, (s1.trans sm) _ _ hd⟩, .inr z, rfl, _, hv, ZN (ben rs k'), .inl (.of (sm _ _ e1)), rfl, ZeT, ?_⟩
  rw [ZfV, decide_eq_decide.mpr (by rw [Znw hle])]
  exact hk
 ·refine ⟨p2, rfl, _, e2, Yz (YK _ _) (by have := hV.2.1; omega), λl H3 ts hl s3 e3 hpw hpm => ?_⟩
  exact q l H3 ts ((s1.trans s2).free hl) (s1.trans (s2.trans s3)) e3 hpw hpm
end
def ListV {α : Type} (R : Hp -> V -> α -> Prop) (H : Hp) (xs : List V) (as : List α) : Prop := xs.length = as.length /\ ∀ (i : Nat) x a, xs[i]? = some x -> as[i]? = some a -> R H x a
def Zgb {α : Type} (R : Hp -> V -> α -> Prop) : Prop := ∀ H H' v a, R H v a -> (∀ b ys, H b = some (.tup ys) -> H' b = some (.tup ys)) -> R H' v a
theorem ListV.keep {α : Type} {R : Hp -> V -> α -> Prop} (kR : Zgb R) {H H' : Hp} {xs : List V} {as : List α} (h : ListV R H xs as) (s : ∀ b ys, H b = some (.tup ys) -> H' b = some (.tup ys)) : ListV R H' xs as := ⟨h.1, λi x a h1 h2 => kR _ _ _ _ (h.2 i x a h1 h2) s⟩
theorem ListV.snoc {α : Type} {R : Hp -> V -> α -> Prop} {H : Hp} {xs : List V} {as : List α} {x : V} {a : α} (h : ListV R H xs as) (hx : R H x a) : ListV R H (xs ++ [x]) (as ++ [a]) := ⟨by simp [h.1], λi y r h1 h2 => by
 by_cases c : i < xs.length
 ·rw [Va c] at h1
  rw [Va (by rw [<- h.1]; exact c)] at h2
  exact h.2 i y r h1 h2
 ·have hi : i = xs.length := by have := (List.getElem?_eq_some_iff.mp h1).1; simp at this; omega
  subst hi
  rw [YX (Yd _)] at h1
  rw [h.1, YX (Yd _)] at h2
  simp at h1 h2
  subst h1
  subst h2
  exact hx⟩
theorem Zig {α : Type} {K : PySem.W.Frag} {a : Addr} {nt : Nat} {cp : St} {g : TG} {te : TE} {H1 : Hp} {Q : VK} (R : Hp -> V -> α -> Prop) (kR : Zgb R) {xs : List V} {as : List α} (ha : H1 a = some (.lst xs)) (hlen : xs.length = as.length) (hl : xs.length < 1000)
  (ht : ∀ (i : Nat) x b, xs[i]? = some x -> as[i]? = some b -> ∀ H' (k : VK) os, Same H1 H' -> os.length = nt -> (∀ v H2, Same H' H2 -> R H2 v b -> k v H2) -> g x (os ++ cp) H' λτ H3 => ∃ os', os'.length = nt /\ τ = os' ++ cp /\ te τ H3 k)
  (q : ∀ p H' ys, H1 p = none -> Same H1 H' -> H' p = some (.lst ys) -> ListV R H' ys as -> Q (.ref p) H') : Zod nt cp (Itl K a) g te H1 Q := by
 unfold Zod
 refine ZcN (xs := xs) (λacc i ys H' => Same H1 H' /\ H' acc = some (.lst ys) /\ ListV R H' ys (as.take i) /\ i <= as.length)
  (λacc H2 hn sm e => ⟨sm, e, ⟨by simp, λi v r h1 h2 => by simp at h1⟩, Nat.zero_le _⟩) (λacc i ys H2 hn ⟨sm, e, e2, hi⟩ => ⟨e, ?_, .of (sm _ _ ha)⟩) (λacc i y ys H2 os hn hi hP ol => ?_) (λacc ys H2 hn hP => ?_)
 ·rw [e2.1, Y4]; omega
 ·obtain ⟨sm, e, e2, _⟩ := hP
  have hil : i < as.length := by rw [<- hlen]; exact (Yj.mp hi).1
  have hb := Yc hil
  refine ht i y _ hi hb H2 (λv H5 => H5 acc = some (.lst ys) /\ (Same H1 (upd H5 acc (.lst (ys ++ [v]))) /\ upd H5 acc (.lst (ys ++ [v])) acc = some (.lst (ys ++ [v])) /\ ListV R (upd H5 acc (.lst (ys ++ [v]))) (ys ++ [v]) (as.take (i + 1)) /\ i + 1 <= as.length)) os sm ol λv H3 s3 hv => ⟨s3 _ _ e, Zr hn (sm.trans s3), upd_same, ?_, hil⟩
  have kp : ∀ b ys', H3 b = some (.tup ys') -> upd H3 acc (.lst (ys ++ [v])) b = some (.tup ys') := λb ys' eb => by rw [Ze (Jc eb (s3 _ _ e) (by intro z; cases z))]; exact eb
  rw [Yw, hb]
  exact ((e2.keep kR λb ys' eb => s3 _ _ eb).keep kR kp).snoc (kR _ _ _ _ hv kp)
 ·obtain ⟨sm, e, e2, _⟩ := hP
  rw [hlen, YE] at e2
  exact q acc H2 ys hn sm e e2
def Zrl (_ : Hp) (v : V) (n : Int) : Prop := v = .int n
theorem ZiN : Zgb Zrl := λ_ _ _ _ h _ => h
def Zma {H : Hp} {ys : List V} {ns : List Int} (h : ListV Zrl H ys ns) : ys = ns.map V.int := by
 refine Yaw λi => ?_
 rw [Yi]
 by_cases c : i < ys.length
 ·have c2 : i < ns.length := by rw [<- h.1]; exact c
  rw [Yc c, Yc c2]
  exact congrArg some (h.2 i _ _ (Yc c) (Yc c2))
 ·rw [YY (by omega), YY (by rw [<- h.1]; omega)]
  rfl
def Zmb (p q : Rat) : p - q = Rat.divInt (p.num * (q.den : Int) - q.num * (p.den : Int)) ((p.den : Int) * (q.den : Int)) := by
 have hp := p.den_pos
 have hq := q.den_pos
 conv => lhs; rw [<- Vn p, <- Vn q]
 rw [Rat.divInt_sub_divInt _ _ (by omega) (by omega)]
theorem SzQ.sub {n m k : Nat} {p q : Rat} (hp : SzQ n p) (hq : SzQ m q) (h : n + m + 1 <= k) : SzQ k (p - q) := by
 have hq' : SzQ m (-q) := ⟨by rw [Rat.neg_num, Int.natAbs_neg]; exact hq.1, by rw [Rat.neg_den]; exact hq.2⟩
 rw [Rat.sub_eq_add_neg]
 exact hp.add hq' h
def ZeS : Sp := λvs H Q _ => ∃ (x y : V) (p q : Rat), vs = [x, y] /\ RatV H x p /\ RatV H y q /\ SzQ 3000 p /\ SzQ 3000 q /\ ∀ r H', Same H H' -> RatV H' r (p - q) -> Q r H'
theorem Zke : Zgb RatV := λ_ _ _ _ h s => h.keep s
section
variable {P : Program} {w : World} {K : PySem.W.Frag} {mg : Str -> Option Value} {base : Heap} {f : Addr} {fd : FuncData}
def Zlg (F : Fun K "rest_of" "rest_of" ZdI f fd) (Zc9 : Fn P w K mg base Zx 2 "ratio" ["top", "bottom"] Za2) : FnOk P w K mg base Zx 3 f fd ["one", "other"] ZeS := by
 refine JN F Zhq (λvs H Q E h => ?_) (λcdv A outer s H vs Q E hr h => ?_)
 ·obtain ⟨x, y, p, t, rfl, _⟩ := h; rfl
 obtain ⟨x, y, p, t, rfl, ⟨a, rfl, ha⟩, ⟨b, rfl, hb⟩, z1, z2, q⟩ := h
 refine ⟨_, (Zh (Zy (ZB Zc9 hr (by decide) rfl (Zg (JT (Jj (ZI (Zf 0) Zc) (ZI (Zf 1) Zc)) (Jj (ZI (Zf 1) Zc) (ZI (Zf 0) Zc))) (Zg (Jj (ZI (Zf 0) Zc) (ZI (Zf 1) Zc)) Za))))), ?_⟩
 rw [show Zu ["one", "other"] [.ref a, .ref b] = [some (.ref a), some (.ref b)] from rfl]
 walk_at "rd"
 simp only [ha, hb, Za2]
 walk_at "rd"
 refine ⟨JI z1.1 (Z4 z2) (by decide), JI z2.1 (Z4 z1) (by decide), JI (Z4 z1) (Z4 z2) (by decide), Big.of (Zaw (Z4 z1) (Z4 z2)) (by decide), ZdW p t, λr H' hs v => q r H' hs ?_⟩
 rw [Zmb]
 exact v
end
theorem ZjR {p q : Rat} : p.num * (q.den : Int) < q.num * (p.den : Int) ↔ p < q := (Rat.lt_iff p q).symm
def ZfJ : Sp := λvs H Q _ => ∃ (x y : V) (p q : Rat), vs = [x, y] /\ RatV H x p /\ RatV H y q /\ SzQ 3000 p /\ SzQ 3000 q /\ Q (.bl (decide (p < q))) H
def ZmL (pt C : Addr) : Sp := λvs H Q _ => ∃ (x : V) (rs : List (Nat × Rat)) (d : Addr) (kvs : List (ZC × V)) (ss : List Str) (hf : Str -> Nat), vs = [x, .ref d] /\ TreeV C H x rs /\ Rd H d (.dK kvs) /\ (kvs.map λkv => kV kv.1) = ss.map V.str /\ (∀ gs : List Str, (∀ z ∈ gs, z ∈ ss) -> Zbj kvs gs (gs.map hf) rs.length) /\ rs.length <= 20 /\ ss.length < 50 /\ ZbJ rs /\ ZfG H pt "far_roads_first.<locals>.<lambda>" /\
 ∀ p H' (fr : List Nat), H p = none -> Same H H' -> H' p = some (.lst (ZN fr)) -> fr.Nodup -> (∀ k, k ∈ fr ↔ Jl rs (ss.map hf) k) -> fr.Pairwise (λa b => (wayL rs b).length <= (wayL rs a).length) -> Q (.ref p) H'
noncomputable def kyW (rs : List (Nat × Rat)) (v : V) : Int := match v with | .int i => ((wayL rs i.toNat).length : Nat) | _ => 0
def ZhL (v : V) : Nat := match v with | .int i => i.toNat | _ => 0
def ZhI {rs : List (Nat × Rat)} {ks : List Nat} {ys : List V} (h : ZdJ true ((ZN ks).map (kyW rs)) (ZN ks) ys) : ∃ fr : List Nat, ys = ZN fr /\ fr.Perm ks /\ fr.Pairwise (λa b => (wayL rs b).length <= (wayL rs a).length) := by
 obtain ⟨ps, hp, rfl, hw⟩ := h
 have ez : ((ZN ks).map (kyW rs)).zip (ZN ks) = ks.map λk : Nat => ((((wayL rs k).length : Nat) : Int), V.int (k : Int)) := by
  unfold ZN
  rw [Yv, List.zip_map']
  exact List.map_congr_left λk _ => by simp [kyW]
 rw [ez] at hp
 have hm : ∀ p ∈ ps, ∃ k : Nat, p = ((((wayL rs k).length : Nat) : Int), V.int (k : Int)) := λp hpm => by
  obtain ⟨k, _, e⟩ := Yk.mp (hp.mem_iff.mp hpm)
  exact ⟨k, e.symm⟩
 refine ⟨ps.map λp => ZhL p.2, ?_, ?_, ?_⟩
 ·unfold ZN
  rw [Yv]
  refine YO λp hpm => ?_
  obtain ⟨k, rfl⟩ := hm p hpm
  simp [ZhL]
 ·have := hp.map λp : Int × V => ZhL p.2
  rw [Yv] at this
  refine this.trans (List.Perm.of_eq ?_)
  rw [show ((λp : Int × V => ZhL p.2) ∘ λk : Nat => ((((wayL rs k).length : Nat) : Int), V.int (k : Int))) = id from funext λk => by simp [ZhL], List.map_id]
 ·rw [Vx]
  refine List.Pairwise.imp_of_mem (λ{a b} ha hb hab => ?_) hw
  obtain ⟨k, rfl⟩ := hm a ha
  obtain ⟨j, rfl⟩ := hm b hb
  simp [ZhL] at hab ⊢
  omega
section
variable {P : Program} {w : World} {K : PySem.W.Frag} {mg : Str -> Option Value} {base : Heap} {f c pt : Addr} {fd : FuncData} {CT CNP : Addr}
def ZjL (F : Fun K "is_less" "is_less" Zc7 f fd) : FnOk P w K mg base Zx 1 f fd ["one", "other"] ZfJ := by
 refine JN F ZhB (λvs H Q E h => ?_) (λcdv A outer s H vs Q E hr h => ?_)
 ·obtain ⟨x, y, p, t, rfl, _⟩ := h; rfl
 obtain ⟨x, y, p, t, rfl, ⟨a, rfl, ha⟩, ⟨b, rfl, hb⟩, z1, z2, q⟩ := h
 refine ⟨_, (Zh (Zy (Zsk (Jj (ZI (Zf 0) Zc) (ZI (Zf 1) Zc)) (Jj (ZI (Zf 1) Zc) (ZI (Zf 0) Zc))))), ?_⟩
 rw [show Zu ["one", "other"] [.ref a, .ref b] = [some (.ref a), some (.ref b)] from rfl]
 walk_at "rd"
 simp only [ha, hb]
 walk_at "rd"
 refine ⟨JI z1.1 (Z4 z2) (by decide), JI z2.1 (Z4 z1) (by decide), ?_⟩
 simp only [ZjR]
 exact q
def ZpX (F : Fun K "far_roads_first" "far_roads_first" Zah f fd) (hc : fd.code = .ref c) (hC : codeHdIn K c pt = true) (hB : Zde mg base) (ZA : mg "len" = none) (ZT : mg "sorted" = none) (ZH : mg "list" = none) (ZbC : Fn P w K mg base Zx 4 "needed" ["tree", "homes", "group"] (Zc5 CT))
  (Zhe : Mth P w K mg base Zx 3 CT "way" ["self", "k"] (λvs H Q _ => Zf5 CT CNP vs H Q E0)) : FnOk P w K mg base Zx 8 f fd ["tree", "homes"] (ZmL pt CT) := by
 refine Zr7 F hc Zb9 (λvs H Q E h => ?_) (λA outer s H vs Q E hr h => ?_)
 ·obtain ⟨x, rs, d, kvs, ss, hf, rfl, _⟩ := h; rfl
 obtain ⟨x, rs, d, kvs, ss, hf, rfl, hT, hd, hkv, hat, hrl, hsl, hO, hB2, q⟩ := h
 refine ⟨_, (Zh (Zy (Zon rfl ZT (ZB ZbC hr (by decide) rfl (Zg (Zf 0) (Zg (Zf 1) (Zg (ZfU rfl ZH (Zg (Zf 1) Za)) Za)))) (QE.mk (ZhK (z := "tree") (y := "road") (i := 0) (k := 4) rfl rfl rfl rfl hC hB rfl hr ⟨rfl, rfl, rfl, by decide +kernel, by decide +kernel, by decide +kernel, by decide +kernel, λy e => by have h := PySem.mem_of_lookup e; simp at h; subst h; exact ⟨_, rfl⟩⟩ rfl (Or.inr (Or.inl rfl)) (λz => absurd ((show _ = some NameKind.cell from rfl).symm.trans z) (by decide)) (λ_ _ _ _ => rfl) (λ_ _ _ _ => Jt rfl ZA (Zg (ZbI Zhe (hr.in1.in1.deeper _) (by decide) (Zf 1) (Zg (Zf 0) Za)) Za)))) Zkt))), ?_⟩
 rw [show Zu ["tree", "homes"] [x, .ref d] = [some (x), some (.ref d)] from rfl]
 walk_at "rd"
 show Zfv _ _ _ _ _ _ _
 walk_at "rd"
 refine ⟨d, kvs, rfl, hd, λl H1 hl s1 e1 => ?_⟩
 rw [hkv] at e1
 refine ⟨x, rs, d, l, kvs, ss, ss.map hf, rfl, hT.same s1, Zcj hd s1, e1, hat ss λ_ hz => hz, by omega, hsl, hO, λp H2 ks hp s2 e2 hpw hmem => ?_⟩
 have s12 := s1.trans s2
 have hbd : ∀ k ∈ ks, 1 <= k /\ k <= rs.length := λk hk => Z0 ((hmem k).mp hk)
 have hkl := ZmB hpw hbd
 refine ⟨let ⟨t, ht⟩ := hB2; ⟨t, s12 _ _ ht⟩, x, rfl, λfv H3 s3 hfv => ⟨p, ZN ks, kyW rs, rfl, s3 _ _ e2, by simp [ZN]; omega, hfv _ _ λy hy H' k sm hk => ?_, λD H4 ys hD s4 e4 hs => ?_⟩⟩
 ·obtain ⟨k0, hk0, rfl⟩ := Yk.mp hy
  obtain ⟨b1, b2⟩ := hbd k0 hk0
  have hT2 := hT.same (s12.trans (s3.trans sm))
  obtain ⟨xa, dx, la, wa, ls, ws, rfl, h1, _⟩ := id hT2
  walk_at "rd"
  refine ⟨dx, _, h1, rfl, .ref xa, rs, k0, rfl, hT2, λp5 H5 k' w0 ek hp5 s5 e5 hw hwl => ⟨p5, rfl, _, .inl e5, ?_⟩, λzz => absurd ⟨by omega, by omega⟩ zz⟩
  have e : k' = k0 := by omega
  subst e
  have e2 : kyW rs (.int (k' : Int)) = ((ZN w0).length : Nat) := by simp [kyW, ZN, Za5 hw]
  rw [<- e2]
  exact hk H5 s5
 ·obtain ⟨fr, rfl, hfp, hfw⟩ := ZhI hs
  have hkn : ks.Nodup := hpw.imp λh e => by rw [e] at h; exact YF _ h
  exact q D H4 fr ((s12.trans s3).free hD) (s12.trans (s3.trans s4)) e4 (hfp.symm.nodup hkn) (λk => (hfp.mem_iff).trans (hmem k)) hfw
end
def Zs (B : Nat) (m : Int) : Rat := Rat.divInt m (B : Int)
def ZaX {B : Nat} (hB : 0 < B) {m n : Int} : Zs B m < Zs B n ↔ m < n := by
 rw [<- Rat.not_le, <- Int.not_le]
 unfold Zs
 rw [Rat.le_iff_sub_nonneg, Rat.divInt_sub_divInt _ _ (by omega) (by omega), <- Int.sub_mul, Rat.divInt_nonneg_iff_of_pos_right (Int.mul_pos (by omega) (by omega))]
 constructor
 ·intro h c
  exact h (Int.mul_nonneg (by omega) (by omega))
 ·intro h c
  refine h ?_
  have := Int.nonneg_of_mul_nonneg_left c (by omega : (0 : Int) < (B : Int))
  omega
def ZbB {B : Nat} (hB : 0 < B) (m n : Int) : Zs B m + Zs B n = Zs B (m + n) := ZcP (by omega)
def ZgY {B : Nat} (hB : 0 < B) (m n : Int) : Zs B m - Zs B n = Zs B (m - n) := by
 have := ZbB hB (m - n) n
 rw [Int.sub_add_cancel] at this
 rw [<- this, Rat.sub_eq_add_neg, Vj, Rat.add_neg_cancel, Yaf]
def Zg7 {B : Nat} (hB : 0 < B) {m n : Int} (h : Zs B m = Zs B n) : m = n := by
 have h1 : ¬ m < n := λc => by have := (ZaX hB).mpr c; rw [h] at this; exact Rat.lt_irrefl this
 have h2 : ¬ n < m := λc => by have := (ZaX hB).mpr c; rw [h] at this; exact Rat.lt_irrefl this
 omega
def ZaZ (B : Nat) : Zs B 0 = 0 := YaC _
theorem Zbe {B n : Nat} {m : Int} (hB : 0 < B) (h1 : B < 2 ^ n) (h2 : m.natAbs < 2 ^ n) : SzQ n (Zs B m) := SzQ.of (by omega) h2 (by simpa using h1)
def ZeC {B : Nat} (hB : 0 < B) (m : Int) : (Zs B m).den ∣ B := by
 have h1 : (Zs B m).num * (B : Int) = m * ((Zs B m).den : Int) := by
  have h := Vn (Zs B m)
  have hd := (Zs B m).den_pos
  exact (Rat.divInt_eq_divInt_iff (by omega) (by omega)).mp h
 have h2 : ((Zs B m).den : Int) ∣ (Zs B m).num * (B : Int) := ⟨m, by rw [h1, Int.mul_comm]⟩
 have h3 := Int.natAbs_dvd_natAbs.mpr h2
 rw [Int.natAbs_mul] at h3
 have hc : Nat.Coprime (Zs B m).den (Zs B m).num.natAbs := (Zs B m).reduced.symm
 exact hc.dvd_of_dvd_mul_left (by simpa using h3)
def Zgt {B : Nat} (hB : 0 < B) (m : Int) : (Zs B m).num < 0 ↔ m < 0 := by
 have h := @ZaX B hB m 0
 rw [ZaZ, Rat.lt_iff] at h
 simp at h
 exact h
def ZkG {a b B : Nat} (ha : 0 < a) (h1 : a ∣ B) (h2 : b ∣ B) : J0 a b ∣ B := by
 have : J0 a b = Nat.lcm a b := by
  unfold J0 Nat.lcm
  rw [Nat.mul_comm a b, Nat.mul_div_assoc _ (Yaz a b), Nat.mul_comm]
 rw [this]
 exact Nat.lcm_dvd h1 h2
def Zgz {qs : List Rat} {B : Nat} (h : ∀ (i : Nat) q, qs[i]? = some q -> q.den ∣ B) : ∀ i, i <= qs.length -> JZ qs i ∣ B /\ 0 < JZ qs i
 | 0, _ => ⟨Nat.one_dvd _, Nat.one_pos⟩
 | i + 1, hi => by
  have hq := Yc (show i < qs.length from hi)
  obtain ⟨h1, h2⟩ := Zgz h i (Ys hi)
  rw [Zc2 hq]
  exact ⟨ZkG h2 h1 (h i _ hq), Zg5 h2 (qs[i]).den_pos⟩
theorem Zc8 {B : Nat} {ms : List Int} (hB : 0 < B) (h1 : B < 2 ^ 2600) (h2 : ∀ m ∈ ms, m.natAbs < 2 ^ 2700) : ZqM (ms.map (Zs B)) := by
 refine ⟨λi q h => ?_, λi hi => ?_⟩
 ·rw [Yi] at h
  obtain ⟨m, hm, rfl⟩ := YG.mp h
  exact (Zbe (n := 2700) hB (Yo h1 (YU (by decide) (by decide))) (h2 m (Yq hm))).mono (by decide)
 ·have h3 := Zgz (B := B) (λi q h => by
   rw [Yi] at h
   obtain ⟨m, _, rfl⟩ := YG.mp h
   exact ZeC hB m) i hi
  exact Yh (Nat.le_of_dvd hB h3.1) (Ys (Yo h1 (YU (by decide) (by decide))))
theorem Zb0 {B : Nat} (hB : 0 < B) (ms : List Int) : ∀ i, i <= ms.length -> Zkv (ms.map (Zs B)) i = Zs B (ms.take i).sum
 | 0, _ => (ZaZ B).symm
 | i + 1, hi => by
  have hm := Yc (show i < ms.length from hi)
  rw [Zdk (q := Zs B ms[i]) (by rw [Yi, hm]; rfl), Zb0 hB ms i (Ys hi), ZbB hB, Yw, hm, List.sum_append]
  simp
def Zep {B : Nat} (hB : 0 < B) (ms : List Int) : Zkv (ms.map (Zs B)) (ms.map (Zs B)).length = Zs B ms.sum := by
 rw [Yg, Zb0 hB ms _ (Yd _), YE]
def Zfy : Sp := λvs H Q _ => ∃ (d g : Addr) (o : Obj) (kvs : List (ZC × V)) (ss gs : List Str), vs = [.ref d, .ref g] /\ H d = some (.frz o (.dK kvs)) /\ (kvs.map λkv => kV kv.1) = ss.map V.str /\ ss.length < 50 /\ H g = some (.lst (gs.map V.str)) /\
 ∀ p H' (ts : List Str), H p = none -> Same H H' -> H' p = some (.lst (ts.map V.str)) -> ts.Pairwise leS -> ts.Perm (ss.filter λz => !decide (z ∈ gs)) -> Q (.ref p) H'
def ZQ : Int -> List Int -> List Int
 | _, [] => []
 | d, l :: ls => min l d :: ZQ (d - min l d) ls
def Zc1 : ∀ (d : Int) (ls : List Int), (ZQ d ls).length = ls.length
 | _, [] => rfl
 | d, l :: ls => by rw [ZQ, YQ, YQ, Zc1]
def ZeQ : ∀ (d : Int) (ls : List Int), 0 <= d -> (∀ l ∈ ls, 0 <= l) -> (∀ (i : Nat) l p, ls[i]? = some l -> (ZQ d ls)[i]? = some p -> 0 <= p /\ p <= l /\ p <= d) /\ (d <= ls.sum -> (ZQ d ls).sum = d)
 | d, [], _, _ => ⟨λi l p h => by simp at h, λh => by simp [ZQ] at h ⊢; omega⟩
 | d, l :: ls, hd, hl => by
  have h0 := hl l (.head _)
  obtain ⟨h1, h2⟩ := ZeQ (d - min l d) ls (by omega) λx hx => hl x (.tail _ hx)
  refine ⟨λi x p hx hp => ?_, λhs => ?_⟩
  ·match i with
   | 0 => simp [ZQ] at hx hp; subst hx hp; omega
   | i + 1 =>
    rw [ZQ] at hp
    have := h1 i x p (by simpa using hx) (by simpa using hp)
    omega
  ·rw [ZQ, VV]
   rw [VV] at hs
   by_cases c : l <= d
   ·have : min l d = l := by omega
    rw [this] at h2 ⊢
    have := h2 (by omega)
    omega
   ·have e : min l d = d := by omega
    rw [e, Int.sub_self] at h2 ⊢
    have hz : ∀ x ∈ ls, 0 <= x := λx hx => hl x (.tail _ hx)
    have hsum : 0 <= ls.sum := by
     clear h1 h2 hs hl
     induction ls with
     | nil => simp
     | cons y ys ih => rw [VV]; have := hz y (.head _); have := ih λx hx => hz x (.tail _ hx); omega
    have := h2 hsum
    omega
def ZnD (B : Nat) (H : Hp) (xs : List V) (ps : List (Str × Int)) : Prop := ListV (λH v p => ∃ t r, v = .ref t /\ H t = some (.tup [.str p.1, r]) /\ RatV H r (Zs B p.2)) H xs ps
def Zkd : Sp := λvs H Q _ => ∃ (x : V) (g d : Addr) (lvs : List (ZC × V)) (ts : List Str) (B : Nat) (c : Int) (l : Str -> Int), vs = [x, .ref g, .ref d] /\ RatV H x (Zs B c) /\ H g = some (.lst (ts.map V.str)) /\ Rd H d (.dK lvs) /\ (∀ z ∈ ts, ∃ v, Jw lvs (Sum.inr z) = some v /\ RatV H v (Zs B (l z))) /\ 0 < B /\ B < 2 ^ 2600 /\ 0 <= c /\ c.natAbs < 2 ^ 2600 /\ (∀ z ∈ ts, 0 <= l z /\ (l z).natAbs < 2 ^ 2600) /\ ts.length < 50 /\
 ∀ p H' xs, H p = none -> Same H H' -> H' p = some (.lst xs) -> ZnD B H' xs ((ts.zip (ZQ c (ts.map l))).filter λp => decide (0 < p.2)) -> Q (.ref p) H'
section
variable {P : Program} {w : World} {K : PySem.W.Frag} {mg : Str -> Option Value} {base : Heap} {f : Addr} {fd : FuncData} {CT CNP : Addr}
def Zjf (F : Fun K "others" "others" Zeg f fd) (ZT : mg "sorted" = none) : FnOk P w K mg base Zx 1 f fd ["homes", "names"] Zfy := by
 refine JN F ZiR (λvs H Q E h => ?_) (λcdv A outer s H vs Q E hr h => ?_)
 ·obtain ⟨d, g, o, kvs, ss, gs, rfl, _⟩ := h; rfl
 obtain ⟨d, g, o, kvs, ss, gs, rfl, hd, hkv, hl, hg, q⟩ := h
 refine ⟨_, (Zh (Zy (Ze1 rfl ZT (Zg (Zf8 (ZlK ["name"] [1] ["names"]) (ZgP (Zf 0)) (by exact λs H fp => (Zw 0 (show List.Nodup (["name", "names"] : List Str) from by decide +kernel))) (by exact λs H fp => ZgF (Zok K (Zf 0) (Zf 1))) (by exact λs H fp => (Zf 0))) Za)))), ?_⟩
 rw [show Zu ["homes", "names"] [.ref d, .ref g] = [some (.ref d), some (.ref g)] from rfl]
 walk_at "rd"
 simp only [ZcD, Zhi]
 walk_at "rd"
 refine ⟨o, kvs, hd, ?_⟩
 rw [show Jn [some (V.ref d), some (V.ref g)] [1] = [some (V.ref g)] from rfl]
 refine Zfg (λz => !decide (z ∈ gs)) hd hkv (by omega) (λz hz H' k sm hk => ?_) (λp2 H2 hp2 s2 e2 => ?_)
 ·walk_at "rd"
  simp only [rIn]
  walk_at "rd"
  refine ⟨_, .inl (.of (sm _ _ hg)), rfl, Zj1 _, ?_⟩
  rw [ZnN]
  exact hk
 ·refine ⟨p2, rfl, _, e2, Yz (YK _ _) (by omega), λl H3 ts hl s3 e3 hpw hpm => ?_⟩
  exact q l H3 ts (s2.free hl) (s2.trans s3) e3 hpw hpm
def Ppy (H0 : Hp) (x : V) (g d p : Addr) (B : Nat) (c : Int) (ts : List Str) (l : Str -> Int) (i : Nat) (Z : St) (H : Hp) : Prop := ∃ (y : V) (o1 o2 : Option V) (due : Int) (xs : List V), Z = [some x, some (.ref g), some (.ref d), some (.ref p), some y, o1, o2] /\ Same H0 H /\ RatV H y (Zs B due) /\ 0 <= due /\ due <= c /\ H p = some (.lst xs) /\
 ∃ pre, pre.length = i /\ ZQ c (ts.map l) = pre ++ ZQ due ((ts.drop i).map l) /\ ZnD B H xs (((ts.take i).zip pre).filter λp => decide (0 < p.2))
def ZnZ (F : Fun K "payments" "payments" Zci f fd) (ZaL : Fn P w K mg base Zx 1 "is_less" ["one", "other"] ZfJ) (Zdu : FnD P w K mg base Zx 2 "ratio" ["top", "bottom"] [.int 1] Za2) (Za0 : Fn P w K mg base Zx 3 "rest_of" ["one", "other"] ZeS) : FnOk P w K mg base Zx 4 f fd ["price", "payers", "left"] Zkd := by
 refine JN F sc_payments (λvs H Q E h => ?_) (λcdv A outer s H vs Q E hr h => ?_)
 ·obtain ⟨x, g, d, lvs, ts, B, c, l, rfl, _⟩ := h; rfl
 obtain ⟨x, g, d, lvs, ts, B, c, l, rfl, hx, hg, hd, hv, hB0, hB1, hc0, hc1, hl, htl, q⟩ := h
 refine ⟨_, (Zd (Zo 3 sc_payments.nd (JJ Za))
   (Zd (Zo 4 sc_payments.nd (Zf 0))
   (Zd (Jr YC (Ju (Zf 1)) (Zw 5 sc_payments.nd) (Zd (Zo 6 sc_payments.nd (Zq7 (Jx (ZB ZaL hr (by decide) rfl (Zg (JC (Jm hr) (Zf 2) (Zf 5)) (Zg (Zf 4) Za)))) (JC (Jm hr) (Zf 2) (Zf 5)) (Zf 4)))
   (Zh (Jo (Jx (ZB ZaL hr (by decide) rfl (Zg (Zre Zdu hr (by decide) rfl (Zg Zc Za)) (Zg (Zf 6) Za)))) (Zd (Ja (Zed (Zf 3) (Zg (Js (Zg (Zf 5) (Zg (Zf 6) Za))) Za)))
   (Zh (Zo 4 sc_payments.nd (ZB Za0 hr (by decide) rfl (Zg (Zf 4) (Zg (Zf 6) Za)))))) Je))))
   (Zh (Zy (Zf 3)))))), ?_⟩
 rw [show Zu ["price", "payers", "left", "rows", "due", "name", "amount"] [x, .ref g, .ref d] = [some (x), some (.ref g), some (.ref d), none, none, none, none] from rfl]
 walk_at "rd"
 intro p H1 hp s1 e1
 simp only [Za1]
 walk_at "rd"
 have kpR : Zgb (λH v (p : Str × Int) => ∃ t r, v = .ref t /\ H t = some (.tup [.str p.1, r]) /\ RatV H r (Zs B p.2)) := λH H' v p h s => let ⟨t, r, a1, a2, a3⟩ := h; ⟨t, r, a1, s _ _ a2, a3.keep s⟩
 refine ZbD (Ppy H x g d p B c ts l) ⟨x, _, _, c, [], rfl, s1, hx.same s1, hc0, by omega, e1, [], rfl, by simp, ⟨by simp, λi v r h => by simp at h⟩⟩ (λi Z H' _ ⟨_, _, _, _, _, _, sm, _⟩ => .of (sm _ _ hg)) (λi y Z H' hi hP => ?_) (λZ H' hP => ?_)
 ·obtain ⟨y0, o1, o2, due, xs, rfl, sm, hy, hd0, hd1, ep, pre, hpl, hpre, hR⟩ := hP
  rw [Yi] at hi
  obtain ⟨z, hz, rfl⟩ := YG.mp hi
  have hzm := Yq hz
  have hil := (Yj.mp hz).1
  obtain ⟨v, ev, rv⟩ := hv z hzm
  obtain ⟨hl0, hl1⟩ := hl z hzm
  have szl : SzQ 3000 (Zs B (l z)) := (Zbe hB0 hB1 hl1).mono (by decide)
  have szd : SzQ 3000 (Zs B due) := (Zbe hB0 hB1 (Yz (by omega) hc1)).mono (by decide)
  have hdr : (ts.drop i).map l = l z :: (ts.drop (i + 1)).map l := by rw [Yak hil, Yr, (Yj.mp hz).2]
  have htk : ts.take (i + 1) = ts.take i ++ [z] := by rw [Yw, hz]; rfl
  have hpre2 : ZQ c (ts.map l) = (pre ++ [min (l z) due]) ++ ZQ (due - min (l z) due) ((ts.drop (i + 1)).map l) := by rw [hpre, hdr, ZQ, List.append_assoc]; rfl
  have hzp : ((ts.take (i + 1)).zip (pre ++ [min (l z) due])).filter (λp => decide (0 < p.2)) = ((ts.take i).zip pre).filter (λp => decide (0 < p.2)) ++ (if 0 < min (l z) due then [(z, min (l z) due)] else []) := by
   rw [htk, List.zip_append (by rw [Y4, hpl]; omega), VI]
   congr 1
   by_cases c0 : 0 < min (l z) due
   ·rw [if_pos c0]; simp [c0]
   ·rw [if_neg c0]; simp [c0]
  refine ZV λR0 hR0 => ?_
  suffices fin : ∀ u : V, RatV H' u (Zs B (min (l z) due)) -> R0 [some x, some (.ref g), some (.ref d), some (.ref p), some y0, some (.str z), some u] H' by
   walk_at "rd"
   refine ⟨lvs, Zcj hd sm, .inr z, rfl, v, ev, v, y0, _, _, rfl, rv.same sm, hy, szl, szd, _, rfl, ?_⟩
   by_cases c0 : l z < due
   ·rw [if_pos (Y8 ((ZaX hB0).mpr c0))]
    refine ⟨lvs, Zcj hd sm, .inr z, rfl, v, ev, fin v ?_⟩
    rw [show min (l z) due = l z by omega]
    exact rv.same sm
   ·rw [if_neg (by rw [Ve, ZaX hB0]; exact c0)]
    refine fin y0 ?_
    rw [show min (l z) due = due by omega]
    exact hy
  intro u hu
  have szu : SzQ 3000 (Zs B (min (l z) due)) := (Zbe hB0 hB1 (Yz (by omega) hc1)).mono (by decide)
  subst hR0
  walk_at "rd"
  refine ⟨_, _, rfl, Big.of (n := 1) (by decide) (by decide), by decide, λr0 H2 s2 v2 => ?_⟩
  have e0 : Rat.divInt 0 1 = Zs B 0 := by rw [ZaZ]; exact YaC 1
  rw [e0] at v2
  have sz0 : SzQ 3000 (Zs B 0) := by rw [ZaZ]; exact Zee (by decide)
  refine ⟨r0, u, _, _, rfl, v2, hu.same s2, sz0, szu, _, rfl, ?_⟩
  by_cases c0 : 0 < min (l z) due
  ·rw [if_pos (Y8 ((ZaX hB0).mpr c0))]
   refine ⟨⟨_, s2 _ _ ep⟩, λt H3 ht s3 e3 => ?_⟩
   have s23 := s2.trans s3
   have ep3 := s23 _ _ ep
   have kp : ∀ b ys, H3 b = some (.tup ys) -> upd H3 p (.lst (xs ++ [.ref t])) b = some (.tup ys) := λb ys e => by rw [Ze (Jc e ep3 (by intro z; cases z))]; exact e
   have hxl : xs.length < 1000000 := by
    rw [hR.1]
    refine Yz (YK _ _) ?_
    rw [Vi, Y4]
    omega
   refine ⟨xs, ep3, hxl, y0, u, _, _, rfl, (hy.same s23).keep kp, (hu.same s23).keep kp, szd, szu, λr4 H4 s4 v4 => ?_⟩
   rw [ZgY hB0] at v4
   refine ⟨r4, _, _, due - min (l z) due, xs ++ [.ref t], rfl, (Zr hp (sm.trans s23)).trans s4, v4, by omega, by omega, s4 _ _ upd_same, pre ++ [min (l z) due], by simp [hpl], hpre2, ?_⟩
   rw [hzp, if_pos c0]
   exact ((((hR.keep kpR λb ys e => s23 _ _ e).keep kpR kp).snoc ⟨t, u, rfl, kp _ _ e3, (hu.same s23).keep kp⟩)).keep kpR λb ys e => s4 _ _ e
  ·rw [if_neg (by rw [Ve, ZaX hB0]; exact c0)]
   have ez : min (l z) due = 0 := by omega
   refine ⟨y0, _, _, due, xs, rfl, sm.trans s2, hy.same s2, hd0, hd1, s2 _ _ ep, pre ++ [min (l z) due], by simp [hpl], ?_, ?_⟩
   ·rw [hpre2, ez, Int.sub_zero]
   ·rw [hzp, if_neg c0, Y7]
    exact hR.keep kpR λb ys e => s2 _ _ e
 ·obtain ⟨y0, o1, o2, due, xs, rfl, sm, hy, hd0, hd1, ep, pre, hpl, hpre, hR⟩ := hP
  walk_at "rd"
  rw [Yg, List.drop_length, List.map_nil, ZQ, Y7] at hpre
  rw [Yg, YE, <- hpre] at hR
  exact q p H' xs hp sm ep hR
end
def ShV (H : Hp) (svs : List (ZC × V)) (ss : List Str) (qf : Str -> Rat) : Prop := svs.length = ss.length /\ ∀ (i : Nat) z, ss[i]? = some z -> ∃ v, svs[i]? = some (Sum.inr z, v) /\ RatV H v (qf z)
theorem ShV.keep {H H' : Hp} {svs : List (ZC × V)} {ss : List Str} {qf : Str -> Rat} (h : ShV H svs ss qf) (s : ∀ b ys, H b = some (.tup ys) -> H' b = some (.tup ys)) : ShV H' svs ss qf := ⟨h.1, λi z e => let ⟨v, e1, r⟩ := h.2 i z e; ⟨v, e1, r.keep s⟩⟩
theorem ShV.keys {H : Hp} {svs : List (ZC × V)} {ss : List Str} {qf : Str -> Rat} (h : ShV H svs ss qf) : svs.map (·.1) = ss.map Sum.inr := by
 refine Yaw λi => ?_
 rw [Yi, Yi]
 cases e : ss[i]? with
 | none => rw [YY (by rw [h.1]; exact List.getElem?_eq_none_iff.mp e)]; rfl
 | some z => obtain ⟨v, e1, _⟩ := h.2 i z e; rw [e1]; rfl
def ZfX : ∀ {svs : List (ZC × V)} {i : Nat} {k : ZC} {v : V}, svs[i]? = some (k, v) -> (svs.map (·.1)).Nodup -> Jw svs k = some v
 | [], i, k, v, h, _ => by cases h
 | kv :: svs, 0, k, v, h, _ => by cases h; exact ZcI rfl
 | kv :: svs, i + 1, k, v, h, hn => by
  rw [Yr, Y6] at hn
  have hm : (k, v) ∈ svs := Yq h
  rw [ZcO (λe => hn.1 (Yk.mpr ⟨_, hm, e.symm⟩))]
  exact ZfX h hn.2
def ZfA {ss : List Str} (h : ss.Nodup) : (ss.map (Sum.inr : Str -> ZC)).Nodup := List.Pairwise.map _ (λ_ _ hne e => hne (by injection e)) h
def ShV.val {H : Hp} {svs : List (ZC × V)} {ss : List Str} {qf : Str -> Rat} (h : ShV H svs ss qf) (hn : ss.Nodup) : ∀ z ∈ ss, ∃ v, Jw svs (Sum.inr z) = some v /\ RatV H v (qf z) := λz hz => by
 obtain ⟨i, hi, e⟩ := VH hz
 obtain ⟨v, e1, r⟩ := h.2 i z (by rw [Yc hi, e])
 exact ⟨v, ZfX e1 (by rw [h.keys]; exact ZfA hn), r⟩
def Zhg {svs : List (ZC × V)} {k : ZC} {v : V} (h : k ∉ svs.map (·.1)) : Jf svs k v = svs ++ [(k, v)] := by
 unfold Jf
 rw [if_neg]
 intro c
 obtain ⟨kv, h1, h2⟩ := List.any_eq_true.mp c
 exact h (List.mem_map.mpr ⟨kv, h1, by simpa using h2⟩)
theorem ShV.snoc {H : Hp} {svs : List (ZC × V)} {ss : List Str} {qf : Str -> Rat} {z : Str} {v : V} (h : ShV H svs ss qf) (hz : z ∉ ss) (r : RatV H v (qf z)) : ShV H (Jf svs (Sum.inr z) v) (ss ++ [z]) qf := by
 rw [Zhg (by rw [h.keys]; intro c; obtain ⟨y, hy, e⟩ := Yk.mp c; injection e with e; exact hz (e ▸ hy))]
 refine ⟨by simp [h.1], λi y e => ?_⟩
 by_cases c : i < ss.length
 ·rw [Va c] at e
  rw [Va (by rw [h.1]; exact c)]
  exact h.2 i y e
 ·have hi : i = ss.length := by have := (List.getElem?_eq_some_iff.mp e).1; simp at this; omega
  subst hi
  rw [YX (Yd _)] at e
  rw [<- h.1, YX (Yd _)]
  simp at e
  subst e
  exact ⟨v, by simp, r⟩
def ShV.put {H : Hp} {svs : List (ZC × V)} {ss : List Str} {qf qg : Str -> Rat} {z : Str} {v : V} (h : ShV H svs ss qf) (hz : z ∈ ss) (r : RatV H v (qg z)) (hq : ∀ y, y ≠ z -> qg y = qf y) : ShV H (Jf svs (Sum.inr z) v) ss qg := by
 have hk : (svs.any λkv => decide (kv.1 = (Sum.inr z : ZC))) = true := by
  have : (Sum.inr z : ZC) ∈ svs.map (·.1) := by rw [h.keys]; exact Yk.mpr ⟨z, hz, rfl⟩
  obtain ⟨kv, h1, h2⟩ := Yk.mp this
  exact List.any_eq_true.mpr ⟨kv, h1, by simpa using h2⟩
 unfold Jf
 rw [if_pos (by simpa using hk)]
 refine ⟨by rw [Yg]; exact h.1, λi y e => ?_⟩
 obtain ⟨u, e1, r1⟩ := h.2 i y e
 rw [Yi, e1]
 by_cases c : y = z
 ·subst c
  exact ⟨v, by simp, r⟩
 ·exact ⟨u, by simp [c], by rw [hq y c]; exact r1⟩
def ZfQ {rs : List (Nat × Rat)} {h : Nat} {w : List Nat} (hw : WayR rs h w) : ∀ k ∈ w, ∃ w', WayR rs k w' /\ w' <:+ w /\ k ∈ w' := by
 induction hw with
 | nil => intro k hk; cases hk
 | @cons j r w hr hw' ih =>
  intro k hk
  rcases Ym.mp hk with rfl | hk
  ·exact ⟨_, .cons hr hw', List.suffix_refl _, .head _⟩
  ·obtain ⟨w', h1, h2, h3⟩ := ih k hk
   exact ⟨w', h1, h2.trans (List.suffix_cons _ _), h3⟩
def Zjc {rs : List (Nat × Rat)} {h k r : Nat} {w : List Nat} (hw : WayR rs h w) (hk : k ∈ w) (hr : r ∈ w) (hl : (wayL rs r).length <= (wayL rs k).length) : r ∈ wayL rs k := by
 obtain ⟨wk, h1, h2, _⟩ := ZfQ hw k hk
 obtain ⟨wr, h3, h4, h5⟩ := ZfQ hw r hr
 rw [Za5 h1] at hl ⊢
 rw [Za5 h3] at hl
 exact (List.suffix_of_suffix_length_le h4 h2 hl).subset h5
def Zj5 {rs : List (Nat × Rat)} {h k r : Nat} {w : List Nat} (hw : WayR rs h w) (hk : k ∈ w) (hr : r ∈ wayL rs k) : r ∈ w := by
 obtain ⟨wk, h1, h2, _⟩ := ZfQ hw k hk
 rw [Za5 h1] at hr
 exact h2.subset hr
def sm {α : Type} (l : List α) (f : α -> Int) : Int := (l.map f).sum
theorem ZjF {α : Type} (f : α -> Int) : sm [] f = 0 := rfl
theorem ZD {α : Type} (x : α) (l : List α) (f : α -> Int) : sm (x :: l) f = f x + sm l f := by unfold sm; rw [List.map_cons, List.sum_cons]
theorem Ze5 {α : Type} (l m : List α) (f : α -> Int) : sm (l ++ m) f = sm l f + sm m f := by unfold sm; rw [List.map_append, List.sum_append]
def Zfo {α : Type} (l : List α) (f g : α -> Int) : sm l (λx => f x + g x) = sm l f + sm l g := by
 induction l with
 | nil => rfl
 | cons x l ih => rw [ZD, ZD, ZD, ih]; omega
def ZmY {α : Type} (l : List α) (f g : α -> Int) : sm l (λx => f x - g x) = sm l f - sm l g := by
 induction l with
 | nil => rfl
 | cons x l ih => rw [ZD, ZD, ZD, ih]; omega
def Zoi {α : Type} {l : List α} {f g : α -> Int} (h : ∀ x ∈ l, f x <= g x) : sm l f <= sm l g := by
 induction l with
 | nil => exact Int.le_refl _
 | cons x l ih => rw [ZD, ZD]; have := h x (.head _); have := ih λy hy => h y (.tail _ hy); omega
def Zbb {α : Type} {l : List α} {f g : α -> Int} (h : ∀ x ∈ l, f x = g x) : sm l f = sm l g := by
 unfold sm
 rw [YO h]
theorem Zbk {α : Type} {l : List α} {f : α -> Int} (h : ∀ x ∈ l, f x = 0) : sm l f = 0 := by
 rw [Zbb h]
 induction l with
 | nil => rfl
 | cons x l ih => rw [ZD, ih λy hy => h y (.tail _ hy)]; rfl
def Zc4 {α : Type} {l : List α} {f : α -> Int} (h : ∀ x ∈ l, 0 <= f x) : 0 <= sm l f := by
 have := Zoi (f := λ_ => 0) h
 rw [Zbk λ_ _ => rfl] at this
 exact this
def ZiU {α : Type} {l : List α} {f : α -> Int} (h : ∀ x ∈ l, 0 <= f x) {x : α} (hx : x ∈ l) : f x <= sm l f := by
 induction l with
 | nil => cases hx
 | cons y l ih =>
  rw [ZD]
  have h0 := h y (.head _)
  have h1 := Zc4 λz hz => h z (.tail _ hz)
  rcases Ym.mp hx with rfl | hx
  ·omega
  ·have := ih (λz hz => h z (.tail _ hz)) hx
   omega
def Zkj {α β : Type} (l : List α) (m : List β) (f : α -> β -> Int) : sm l (λx => sm m (f x)) = sm m (λy => sm l (λx => f x y)) := by
 induction l with
 | nil => rw [ZjF]; exact (Zbk λ_ _ => rfl).symm
 | cons x l ih => rw [ZD, ih, <- Zfo]; exact Zbb λy _ => (ZD x l λx => f x y).symm
def ZdF {α : Type} {l m : List α} (h : l.Perm m) (f : α -> Int) : sm l f = sm m f := by
 induction h with
 | nil => rfl
 | cons x _ ih => rw [ZD, ZD, ih]
 | swap x y l => rw [ZD, ZD, ZD, ZD]; omega
 | trans _ _ ih1 ih2 => exact ih1.trans ih2
def Zaz {α : Type} (l : List α) (p : α -> Bool) (f : α -> Int) : sm (l.filter p) f = sm l (λx => if p x = true then f x else 0) := by
 induction l with
 | nil => rfl
 | cons x l ih =>
  rw [ZD]
  by_cases c : p x = true
  ·rw [Yam c, ZD, ih, if_pos c]
  ·rw [Yan c, ih, if_neg c]; omega
def Zgv {α : Type} (l : List α) (p : α -> Bool) (f : α -> Int) : sm l f = sm (l.filter p) f + sm (l.filter λx => !p x) f := by
 rw [Zaz, Zaz, <- Zfo]
 refine Zbb λx _ => ?_
 cases p x <;> simp
def Zdf {α : Type} [DecidableEq α] {l : List α} (hn : l.Nodup) {r : α} (hr : r ∈ l) (f : α -> Int) : sm l (λk => if k = r then f k else 0) = f r := by
 induction l with
 | nil => cases hr
 | cons x l ih =>
  rw [ZD]
  rw [Y6] at hn
  by_cases c : x = r
  ·subst c
   rw [if_pos rfl, Zbk λy hy => if_neg (λe : y = x => hn.1 (by rw [<- e]; exact hy))]
   omega
  ·rw [if_neg c, ih hn.2 (by rcases Ym.mp hr with h | h; exact absurd h.symm c; exact h)]
   omega
structure PayOk (rs : List (Nat × Rat)) (hf : Str -> Nat) (ss : List Str) (cs : Nat -> Int) (D : List Nat) (pay : Nat -> Str -> Int) : Prop where
 nn : ∀ k z, 0 <= pay k z
 on : ∀ k z, pay k z ≠ 0 -> k ∈ D /\ z ∈ ss /\ k ∈ wayL rs (hf z)
 full : ∀ k ∈ D, sm ss (pay k) = cs k
def ZjV (rs : List (Nat × Rat)) (hf : Str -> Nat) (cs : Nat -> Int) (a : Str -> Int) (G : List Str) : Prop := ∀ acc : List Nat, acc.Nodup -> (∀ k, k ∈ acc ↔ Jl rs (G.map hf) k) -> sm acc cs < sm G a
def ZaP {rs : List (Nat × Rat)} {hf : Str -> Nat} {G : List Str} {k : Nat} (hO : ∀ z ∈ G, WayR rs (hf z) (wayL rs (hf z))) : Jl rs (G.map hf) k ↔ ∃ z ∈ G, k ∈ wayL rs (hf z) := by
 rw [Zmh]
 constructor
 ·rintro ⟨z, hz, w, hw, hk⟩
  exact ⟨z, hz, by rw [Za5 hw]; exact hk⟩
 ·rintro ⟨z, hz, hk⟩
  exact ⟨z, hz, _, hO z hz, hk⟩
def Zkb {fr acc : List Nat} {cs g : Nat -> Int} (hn : acc.Nodup) (hfn : fr.Nodup) (hs : ∀ k ∈ acc, k ∈ fr) (hg : ∀ k ∈ fr, k ∉ acc -> 0 <= cs k - g k) (hg2 : ∀ k ∈ acc, g k = 0) : sm acc cs <= sm fr cs - sm fr g := by
 have hp : acc.Perm (fr.filter λk => decide (k ∈ acc)) := (List.perm_ext_iff_of_nodup hn (hfn.filter _)).mpr λk => by
  rw [Yt]
  simp
  exact λh => hs k h
 rw [ZdF hp, Zaz, <- ZmY]
 refine Zoi λk hk => ?_
 by_cases c : k ∈ acc
 ·rw [if_pos (by simpa using c), hg2 k c]; omega
 ·rw [if_neg (by simpa using c)]; exact hg k hk c
def ZiC {rs : List (Nat × Rat)} {hf : Str -> Nat} {ss U G : List Str} {cs : Nat -> Int} {a : Str -> Int} {D rest : List Nat} {r : Nat} {pay : Nat -> Str -> Int} (hO : ∀ z ∈ ss, WayR rs (hf z) (wayL rs (hf z))) (hfn : (D ++ r :: rest).Nodup)
  (hm : ∀ k, k ∈ D ++ r :: rest ↔ Jl rs (ss.map hf) k) (hw : (D ++ r :: rest).Pairwise (λa b => (wayL rs b).length <= (wayL rs a).length)) (hc : ∀ k, 0 <= cs k) (hP : PayOk rs hf ss cs D pay) (ht : sm (D ++ r :: rest) cs = sm ss a)
  (hU : U.Perm (ss.filter λz => decide (r ∈ wayL rs (hf z)))) (hlt : sm U (λz => a z - sm (D ++ r :: rest) (λk => pay k z)) < cs r) (hG : G.Perm (ss.filter λz => !decide (z ∈ U))) : ZjV rs hf cs a G := by
 intro acc han ham
 have hUm : ∀ z, z ∈ U ↔ z ∈ ss /\ r ∈ wayL rs (hf z) := λz => by rw [hU.mem_iff, List.mem_filter]; simp
 have hGm : ∀ z, z ∈ G ↔ z ∈ ss /\ z ∉ U := λz => by rw [hG.mem_iff, List.mem_filter]; simp
 have hOG : ∀ z ∈ G, WayR rs (hf z) (wayL rs (hf z)) := λz hz => hO z ((hGm z).mp hz).1
 -- what those who use r have paid, road by road
 let u : Nat -> Int := λk => sm U (pay k)
 let g : Nat -> Int := λk => u k + if k = r then cs k else 0
 have hrf : r ∈ D ++ r :: rest := by simp
 have hrD : r ∉ D := λc => (Yav.mp hfn).2.2 r c r (.head _) rfl
 have eU : sm ss (λz => if decide (z ∈ U) = true then a z else 0) = sm U a := by
  rw [<- Zaz]
  refine ZdF ?_ a
  refine List.Perm.trans (List.Perm.of_eq ?_) hU.symm
  refine List.filter_congr λz hz => ?_
  rw [decide_eq_decide, hUm]
  exact ⟨λh => h.2, λh => ⟨hz, h⟩⟩
 have e1 : sm ss a = sm U a + sm G a := by
  rw [Zgv ss (λz => decide (z ∈ U)), Zaz ss (λz => decide (z ∈ U)), eU, ZdF hG]
 have e2 : sm U (λz => a z - sm (D ++ r :: rest) (λk => pay k z)) = sm U a - sm (D ++ r :: rest) u := by
  rw [ZmY, Zkj]
 have e3 : sm (D ++ r :: rest) g = sm (D ++ r :: rest) u + cs r := by
  rw [Zfo, Zdf hfn hrf]
 have hu : ∀ k, u k <= cs k \/ k ∉ D := λk => by
  by_cases c : k ∈ D
  ·left
   have : sm U (pay k) <= sm ss (pay k) := by
    rw [ZdF hU, Zaz]
    refine Zoi λz _ => ?_
    split
    ·exact Int.le_refl _
    ·exact hP.nn k z
   rw [hP.full k c] at this
   exact this
  ·exact .inr c
 have hu0 : ∀ k, k ∉ D -> u k = 0 := λk c => Zbk λz _ => by
  by_cases h : pay k z = 0
  ·exact h
  ·exact absurd (hP.on k z h).1 c
 have key := Zkb (cs := cs) (g := g) han hfn (λk hk => ?_) (λk hk hka => ?_) λk hk => ?_
 ·omega
 ·-- a road needed by others is needed by all
  obtain ⟨z, hz, hkz⟩ := (ZaP hOG).mp ((ham k).mp hk)
  exact (hm k).mpr ((ZaP hO).mpr ⟨z, ((hGm z).mp hz).1, hkz⟩)
 ·show 0 <= cs k - (u k + if k = r then cs k else 0)
  by_cases c : k = r
  ·rw [if_pos c, hu0 k (c ▸ hrD)]; omega
  ·rw [if_neg c]
   rcases hu k with h | h
   ·omega
   ·rw [hu0 k h]; have := hc k; omega
 ·show u k + (if k = r then cs k else 0) = 0
  obtain ⟨z, hz, hkz⟩ := (ZaP hOG).mp ((ham k).mp hk)
  obtain ⟨hzs, hzU⟩ := (hGm z).mp hz
  have hkr : k ≠ r := λc => hzU ((hUm z).mpr ⟨hzs, c ▸ hkz⟩)
  rw [if_neg hkr, Int.add_zero]
  refine Zbk λz' hz' => ?_
  by_cases h : pay k z' = 0
  ·exact h
  ·obtain ⟨hkD, hz's, hkz'⟩ := hP.on k z' h
   have hl : (wayL rs r).length <= (wayL rs k).length := (List.pairwise_append.mp hw).2.2 k hkD r (.head _)
   have hrk : r ∈ wayL rs k := Zjc (hO z' hz's) hkz' ((hUm z').mp hz').2 hl
   exact absurd ((hUm z).mpr ⟨hzs, Zj5 (hO z hzs) hkz hrk⟩) hzU
structure Jd (H : Hp) (CT : Addr) (x : V) (d sd : Addr) (rs : List (Nat × Rat)) (o : Obj) (kvs svs : List (ZC × V)) (ss : List Str) (hf : Str -> Nat) (B : Nat) (a : Str -> Int) (cs : Nat -> Int) : Prop where
 tree : TreeV CT H x rs
 home : H d = some (.frz o (.dK kvs))
 keys : kvs.map (·.1) = ss.map Sum.inr
 share : Rd H sd (.dK svs)
 shv : ShV H svs ss (λz => Zs B (a z))
 nd : ss.Nodup
 few : ss.length <= 12
 hat : ∀ gs : List Str, (∀ z ∈ gs, z ∈ ss) -> Zbj kvs gs (gs.map hf) rs.length
 rl : rs.length <= 20
 ok : ZbJ rs
 sz : ∀ r ∈ rs, SzQ 110 r.2
 b0 : 0 < B
 b1 : B < 2 ^ 2600
 az : ∀ z ∈ ss, (a z).natAbs < 2 ^ 2600
 c0 : ∀ k, 0 <= cs k
 cz : ∀ k, (cs k).natAbs < 2 ^ 2600
 pr : ∀ k, 1 <= k -> k <= rs.length -> Zl rs k = Zs B (cs k)
 tot : ∀ ks : List Nat, ks.Nodup -> (∀ k, k ∈ ks ↔ Jl rs (ss.map hf) k) -> sm ks cs = sm ss a
section
variable {H : Hp} {CT : Addr} {x : V} {d sd : Addr} {rs : List (Nat × Rat)} {o : Obj} {kvs svs : List (ZC × V)} {ss : List Str} {hf : Str -> Nat} {B : Nat} {a : Str -> Int} {cs : Nat -> Int}
theorem Jd.same (J : Jd H CT x d sd rs o kvs svs ss hf B a cs) {H' : Hp} (s : Same H H') : Jd H' CT x d sd rs o kvs svs ss hf B a cs :=
 { J with tree := J.tree.same s, home := s _ _ J.home, share := Zcj J.share s, shv := J.shv.keep λb ys e => s _ _ e }
theorem Jd.kv (J : Jd H CT x d sd rs o kvs svs ss hf B a cs) : (kvs.map λkv => kV kv.1) = ss.map V.str := by
 have := congrArg (List.map kV) J.keys
 rw [Yv, Yv] at this
 exact this
theorem Jd.kl (J : Jd H CT x d sd rs o kvs svs ss hf B a cs) : kvs.length = ss.length := by have := congrArg List.length J.keys; simpa using this
def Jd.way (J : Jd H CT x d sd rs o kvs svs ss hf B a cs) : ∀ z ∈ ss, WayR rs (hf z) (wayL rs (hf z)) := λz hz => by
 have h := (J.hat [z] (λy hy => by rw [YB.mp hy]; exact hz)).2 0 z (hf z) rfl rfl
 obtain ⟨w, hw, _⟩ := Zb4 J.ok h.2
 rw [Za5 hw]
 exact hw
def Jd.price (J : Jd H CT x d sd rs o kvs svs ss hf B a cs) {ks : List Nat} (h : ∀ k ∈ ks, 1 <= k /\ k <= rs.length) : ZoP rs ks = Zs B (sm ks cs) := by
 unfold ZoP
 have e : ks.map (Zl rs) = (ks.map cs).map (Zs B) := by
  rw [Yv]
  exact YO λk hk => J.pr k (h k hk).1 (h k hk).2
 rw [e, Zb0 J.b0 _ _ (by simp), List.take_of_length_le (by simp)]
 rfl
end
def Zrf {ss : List Str} {a : Str -> Int} (hl : ss.length <= 12) (h : ∀ z ∈ ss, (a z).natAbs < 2 ^ 2600) : (sm ss a).natAbs < 2 ^ 2700 := by
 have : ∀ l : List Str, (∀ z ∈ l, (a z).natAbs < 2 ^ 2600) -> (sm l a).natAbs <= l.length * 2 ^ 2600 := by
  intro l
  induction l with
  | nil => intro _; simp [ZjF]
  | cons z l ih =>
   intro h
   have h1 := ih λy hy => h y (.tail _ hy)
   have h2 := h z (.head _)
   rw [ZD, YQ, Nat.add_mul, Nat.one_mul]
   refine Yh (Int.natAbs_add_le _ _) ?_
   omega
 have h1 := this ss h
 refine Yz h1 ?_
 refine Yz (Nat.mul_le_mul_right _ hl) ?_
 rw [show (2700 : Nat) = 100 + 2600 from rfl, Vl]
 exact Nat.mul_lt_mul_of_pos_right (by decide) (VO _)
def Zhm (CT : Addr) : Sp := λvs H Q E => ∃ (x : V) (d : Addr) (kvs : List (ZC × V)), vs = [x, .ref d] /\ Rd H d (.dK kvs) /\ ∀ g H', H g = none -> Same H H' -> H' g = some (.lst (kvs.map λkv => kV kv.1)) -> ZeJ CT [x, .ref d, .ref g] H' Q E
def Zhh {H : Hp} {x y : V} {q r : Rat} (hx : RatV H x q) (hy : RatV H y r) (hne : q ≠ r) : ∃ p c, x = .ref p /\ y = .ref c /\ EqD H x y false 1 := by
 obtain ⟨p, rfl, hp⟩ := hx
 obtain ⟨c, rfl, hc⟩ := hy
 refine ⟨p, c, rfl, rfl, ?_⟩
 have h := EqD.tup (e := λj => if j = 0 then q.num == r.num else (q.den : Int) == (r.den : Int)) (n := 0) hp hc λj x y h1 h2 => by
  match j, h1, h2 with
  | 0, h1, h2 => cases h1; cases h2; have z := EqD.flat (H := H) (x := .int q.num) (y := .int r.num) rfl rfl; exact z
  | 1, h1, h2 => cases h1; cases h2; have z := EqD.flat (H := H) (x := .int (q.den : Int)) (y := .int (r.den : Int)) rfl rfl; exact z
 have e : (((List.range 2).all λj => if j = 0 then q.num == r.num else (q.den : Int) == (r.den : Int))) = false := by
  rw [Bool.eq_false_iff]
  intro h
  simp [List.range_succ] at h
  exact hne (Rat.ext h.1 (by omega))
 have e2 : (List.range (min [V.int q.num, V.int (q.den : Int)].length [V.int r.num, V.int (r.den : Int)].length)).all (λj => if j = 0 then q.num == r.num else (q.den : Int) == (r.den : Int)) = false := e
 rw [e2] at h
 exact h
structure Nj (H : Hp) (CT : Addr) (x : V) (d sd : Addr) (rs : List (Nat × Rat)) (o : Obj) (kvs svs : List (ZC × V)) (ss ts : List Str) (hf : Str -> Nat) (B : Nat) (a : Str -> Int) (cs : Nat -> Int) : Prop where
 tree : TreeV CT H x rs
 home : H d = some (.frz o (.dK kvs))
 keys : kvs.map (·.1) = ss.map Sum.inr
 share : Rd H sd (.dK svs)
 shv : ShV H svs ts (λz => Zs B (a z))
 few : ss.length <= 12
 few2 : ts.length <= 13
 hat : ∀ gs : List Str, (∀ z ∈ gs, z ∈ ss) -> Zbj kvs gs (gs.map hf) rs.length
 rl : rs.length <= 20
 ok : ZbJ rs
 sz : ∀ r ∈ rs, SzQ 110 r.2
 b0 : 0 < B
 b1 : B < 2 ^ 2600
 az : ∀ z ∈ ts, (a z).natAbs < 2 ^ 2600
 pr : ∀ k, 1 <= k -> k <= rs.length -> Zl rs k = Zs B (cs k)
 bad : ¬ (ts.length = ss.length /\ ∀ z ∈ ts, z ∈ ss) \/ (ts = ss /\ ∀ ks : List Nat, ks.Nodup -> (∀ k, k ∈ ks ↔ Jl rs (ss.map hf) k) -> sm ks cs ≠ sm ss a)
theorem Nj.same {H : Hp} {CT : Addr} {x : V} {d sd : Addr} {rs : List (Nat × Rat)} {o : Obj} {kvs svs : List (ZC × V)} {ss ts : List Str} {hf : Str -> Nat} {B : Nat} {a : Str -> Int} {cs : Nat -> Int} (J : Nj H CT x d sd rs o kvs svs ss ts hf B a cs) {H' : Hp} (s : Same H H') : Nj H' CT x d sd rs o kvs svs ss ts hf B a cs :=
 { J with tree := J.tree.same s, home := s _ _ J.home, share := Zcj J.share s, shv := J.shv.keep λb ys e => s _ _ e }
def ZcL (CT CNS : Addr) : Sp := λvs H Q E => ∃ (x : V) (d sd : Addr) (rs : List (Nat × Rat)) (o : Obj) (kvs svs : List (ZC × V)) (ss ts : List Str) (hf : Str -> Nat) (B : Nat) (a : Str -> Int) (cs : Nat -> Int), vs = [x, .ref d, .ref sd] /\ ((Jd H CT x d sd rs o kvs svs ss hf B a cs /\ ∀ H', Same H H' -> Q .non H') \/ (Nj H CT x d sd rs o kvs svs ss ts hf B a cs /\ ∀ H', Same H H' -> E (.ref CNS) none H'))
section
variable {P : Program} {w : World} {K : PySem.W.Frag} {mg : Str -> Option Value} {base : Heap} {f pt : Addr} {fd : FuncData} {CT CNP CNS : Addr}
def Zlo (F : FunD K "look_sharing" "look_sharing" Zaf .none f fd) (Zas : mg "NoSharing" = some (.ref CNS)) (ec_NoSharing : ZoR K CNS) (Zho : mg "set" = none) (ZH : mg "list" = none) (Zao : Fn P w K mg base Zx 4 "total_of" ["some"] (ZcM K)) (Zbd : Fn P w K mg base Zx 6 "cost_of_all" ["tree", "homes"] (Zhm CT)) : FnOk P w K mg base (CX1 P w) 7 f fd ["tree", "homes", "sharing"] (ZcL CT CNS) := by
 refine okX F Zdh (λvs H Q E h => ?_) (λcdv A outer s H vs Q E hr h => ?_)
 ·obtain ⟨x, d, sd, rs, o, kvs, svs, ss, ts, hf, B, a, cs, rfl, _⟩ := h; rfl
 obtain ⟨x, d, sd, rs, o, kvs, svs, ss, ts, hf, B, a, cs, rfl, h⟩ := h
 refine ⟨_, (Zd (Jo (ZnY (Nat.lt_of_succ_lt (Jm hr)) rfl Zho (Zg (Zf 2) Za) (Zg (Zf 1) Za)) (Zh (Zjm ZdO Zas ec_NoSharing rfl (Zg JR Za))) Je)
   (Zh (Jo (Zq5 hr (ZB Zao hr (by decide) rfl (Zg (Zhv rfl ZH (Zf 2)) Za)) (ZB Zbd hr (by decide) rfl (Zg (Zf 0) (Zg (Zf 1) Za)))) (Zh (Zjm ZdO Zas ec_NoSharing rfl (Zg JR Za))) Je))), ?_⟩
 rw [show Zu ["tree", "homes", "sharing"] [x, .ref d, .ref sd] = [some (x), some (.ref d), some (.ref sd)] from rfl]
 rcases h with ⟨J, q⟩ | ⟨J, q⟩
 rotate_left
 ·have hsk := J.shv.keys
  have hkl : kvs.length = ss.length := by have := congrArg List.length J.keys; simpa using this
  have hkv : (kvs.map λkv => kV kv.1) = ss.map V.str := by
   have := congrArg (List.map kV) J.keys
   rw [Yv, Yv] at this
   exact this
  refine ZV λR0 hR0 => ?_
  refine JH λA0 hA0 C0 hC0 => ?_
  simp only [ZgT, tB]
  walk_at "rd"
  refine ⟨svs, J.share, by rw [J.shv.1]; have := J.few2; omega, kvs, .inr ⟨o, J.home⟩, by rw [hkl]; have := J.few; omega, λr hr => ?_⟩
  have hmm : (svs.length = kvs.length /\ ∀ k ∈ svs.map (·.1), k ∈ kvs.map (·.1)) ↔ (ts.length = ss.length /\ ∀ z ∈ ts, z ∈ ss) := by
   rw [J.shv.1, hkl, hsk, J.keys]
   refine and_congr Iff.rfl ⟨λh z hz => ?_, λh k hk => ?_⟩
   ·obtain ⟨y, hy, e⟩ := Yk.mp (h _ (V4 hz))
    cases e
    exact hy
   ·obtain ⟨y, hy, rfl⟩ := Yk.mp hk
    exact V4 (h y hy)
  rcases J.bad with hb | ⟨rfl, hb⟩
  ·have hrf : r = false := by
    cases r with
    | false => rfl
    | true => exact absurd (hmm.mp (hr.mp rfl)) hb
   rw [hrf, if_pos (by decide)]
   subst hA0
   walk_at "rd"
   exact q H λ_ _ z => z
  ·have hrt : r = true := hr.mpr (hmm.mpr ⟨rfl, λz hz => hz⟩)
   rw [hrt, if_neg (by decide)]
   subst hC0
   walk_at "rd"
   subst hR0
   try dsimp only
   refine JH λA0 hA0 C0 hC0 => ?_
   walk_at "rd"
   simp only [ZiS]
   walk_at "rd"
   refine ⟨svs, J.share, λl H1 hl s1 e1 => ?_⟩
   have hRv : RatsV H1 (svs.map (·.2)) ((ts.map a).map (Zs B)) := ⟨by simp [J.shv.1], λi v t h1 h2 => by
    rw [Yi] at h1
    rw [Yv, Yi] at h2
    obtain ⟨z, hz, rfl⟩ := YG.mp h2
    obtain ⟨v', e', r'⟩ := J.shv.2 i z hz
    rw [e'] at h1
    cases h1
    exact r'.same s1⟩
   refine ⟨l, svs.map (·.2), _, rfl, .of e1, hRv, Zc8 J.b0 J.b1 (λm hm => ?_), by simp; have := J.few; omega, λr1 H2 s2 v1 => ?_⟩
   ·obtain ⟨z, hz, rfl⟩ := Yk.mp hm
    exact Yo (J.az z hz) (YU (by decide) (by decide))
   rw [Zep J.b0] at v1
   have s12 := s1.trans s2
   refine ⟨x, d, kvs, rfl, .inr ⟨o, s12 _ _ J.home⟩, λg H3 hg s3 e3 => ?_⟩
   rw [hkv] at e3
   have s13 := s12.trans s3
   refine ⟨x, rs, d, g, kvs, ts, ts.map hf, rfl, J.tree.same s13, .inr ⟨o, s13 _ _ J.home⟩, e3, J.hat ts λ_ hz => hz, J.rl, by have := J.few; omega, J.ok, J.sz, λr2 H4 ks s4 hpw hmem v2 _ => ?_⟩
   have hkn : ks.Nodup := hpw.imp λh e => by rw [e] at h; exact YF _ h
   have hprice : ZoP rs ks = Zs B (sm ks cs) := by
    unfold ZoP
    have e : ks.map (Zl rs) = (ks.map cs).map (Zs B) := by
     rw [Yv]
     exact YO λk hk => J.pr k (Z0 ((hmem k).mp hk)).1 (Z0 ((hmem k).mp hk)).2
    rw [e, Zb0 J.b0 _ _ (by simp), List.take_of_length_le (by simp)]
    rfl
   rw [hprice] at v2
   obtain ⟨p1, p2, rfl, rfl, he⟩ := Zhh (v1.same (s3.trans s4)) v2 λe => hb ks hkn hmem (Zg7 J.b0 e).symm
   refine ⟨false, 1, p1, p2, rfl, rfl, he, by decide, _, rfl, ?_⟩
   rw [if_pos (by decide)]
   subst hA0
   walk_at "rd"
   exact q H4 (s13.trans s4)
 refine ZV λR0 hR0 => ?_
 refine JH λA0 hA0 C0 hC0 => ?_
 simp only [ZgT, tB]
 walk_at "rd"
 have hsk := J.shv.keys
 refine ⟨svs, J.share, by rw [J.shv.1]; have := J.few; omega, kvs, .inr ⟨o, J.home⟩, by rw [J.kl]; have := J.few; omega, λr hr => ?_⟩
 have hrt : r = true := hr.mpr ⟨by rw [J.kl]; exact J.shv.1, λk hk => by rw [J.keys]; rw [hsk] at hk; exact hk⟩
 rw [hrt, if_neg (by decide)]
 subst hC0
 walk_at "rd"
 subst hR0
 try dsimp only
 refine JH λA0 hA0 C0 hC0 => ?_
 walk_at "rd"
 simp only [ZiS]
 walk_at "rd"
 refine ⟨svs, J.share, λl H1 hl s1 e1 => ?_⟩
 have hRv : RatsV H1 (svs.map (·.2)) ((ss.map a).map (Zs B)) := ⟨by simp [J.shv.1], λi v t h1 h2 => by
  rw [Yi] at h1
  rw [Yv, Yi] at h2
  obtain ⟨z, hz, rfl⟩ := YG.mp h2
  obtain ⟨v', e', r'⟩ := J.shv.2 i z hz
  rw [e'] at h1
  cases h1
  exact r'.same s1⟩
 refine ⟨l, svs.map (·.2), _, rfl, .of e1, hRv, Zc8 J.b0 J.b1 (λm hm => ?_), by simp; have := J.few; omega, λr1 H2 s2 v1 => ?_⟩
 ·obtain ⟨z, hz, rfl⟩ := Yk.mp hm
  exact Yo (J.az z hz) (YU (by decide) (by decide))
 rw [Zep J.b0] at v1
 have s12 := s1.trans s2
 refine ⟨x, d, kvs, rfl, .inr ⟨o, s12 _ _ J.home⟩, λg H3 hg s3 e3 => ?_⟩
 rw [J.kv] at e3
 have s13 := s12.trans s3
 refine ⟨x, rs, d, g, kvs, ss, ss.map hf, rfl, J.tree.same s13, .inr ⟨o, s13 _ _ J.home⟩, e3, J.hat ss λ_ hz => hz, J.rl, by have := J.few; omega, J.ok, J.sz, λr2 H4 ks s4 hpw hmem v2 _ => ?_⟩
 have hkn : ks.Nodup := hpw.imp λh e => by rw [e] at h; exact YF _ h
 rw [J.price λk hk => Z0 ((hmem k).mp hk), J.tot ks hkn hmem] at v2
 obtain ⟨p1, p2, rfl, rfl, he⟩ := ZiM (v1.same (s3.trans s4)) v2
 refine ⟨true, 1, p1, p2, rfl, rfl, he, by decide, _, rfl, ?_⟩
 rw [if_neg (by decide)]
 subst hC0
 walk_at "rd"
 exact q H4 (s13.trans s4)
end
def JG (rows : List (Str × Int)) (z : Str) : Int := sm rows λp => if z = p.1 then p.2 else 0
def ZoM (z : Str) : JG [] z = 0 := rfl
def Zev {rows : List (Str × Int)} {i : Nat} {p : Str × Int} (h : rows[i]? = some p) (z : Str) : JG (rows.take (i + 1)) z = JG (rows.take i) z + if z = p.1 then p.2 else 0 := by
 unfold JG
 rw [Yw, h, Ze5]
 simp [sm]
def ZgQ {rows : List (Str × Int)} (h : ∀ p ∈ rows, 0 <= p.2) (i : Nat) (z : Str) : 0 <= JG (rows.take i) z /\ JG (rows.take i) z <= JG rows z := by
 have hn : ∀ l : List (Str × Int), (∀ p ∈ l, 0 <= p.2) -> 0 <= JG l z := λl hl => Zc4 λp hp => by
  show 0 <= if z = p.1 then p.2 else 0
  split
  ·exact hl p hp
  ·exact Int.le_refl _
 have e : JG rows z = JG (rows.take i) z + JG (rows.drop i) z := by
  unfold JG
  rw [<- Ze5, YaI]
 have h1 := hn (rows.take i) λp hp => h p (List.mem_of_mem_take hp)
 have h2 := hn (rows.drop i) λp hp => h p (List.mem_of_mem_drop hp)
 omega
def Zex : ∀ (ts : List Str) (d : Int) (l : Str -> Int), ts.Nodup -> 0 <= d -> (∀ z ∈ ts, 0 <= l z) -> ∀ z, 0 <= JG (ts.zip (ZQ d (ts.map l))) z /\ (z ∉ ts -> JG (ts.zip (ZQ d (ts.map l))) z = 0) /\ (z ∈ ts -> JG (ts.zip (ZQ d (ts.map l))) z <= l z)
 | [], _, _, _, _, _, z => ⟨Int.le_refl _, λ_ => rfl, λh => by cases h⟩
 | y :: ts, d, l, hn, hd, hl, z => by
  rw [Y6] at hn
  have h0 := hl y (.head _)
  obtain ⟨h1, h2, h3⟩ := Zex ts (d - min (l y) d) l hn.2 (by omega) (λx hx => hl x (.tail _ hx)) z
  rw [Yr, ZQ, List.zip_cons_cons]
  unfold JG at h1 h2 h3 ⊢
  rw [ZD]
  dsimp only
  by_cases c : z = y
  ·subst c
   rw [if_pos rfl, h2 hn.1]
   exact ⟨by omega, λh => absurd (Vd ..) h, λ_ => by omega⟩
  ·rw [if_neg c]
   refine ⟨by omega, λh => ?_, λh => ?_⟩
   ·rw [h2 λhm => h (.tail _ hm)]; rfl
   ·have := h3 (by rcases Ym.mp h with h | h; exact absurd h c; exact h)
    omega
def Zm (ts : List Str) (d : Int) (l : Str -> Int) : List (Str × Int) := (ts.zip (ZQ d (ts.map l))).filter λp => decide (0 < p.2)
def Zhu {ts : List Str} {d : Int} {l : Str -> Int} (hd : 0 <= d) (hl : ∀ z ∈ ts, 0 <= l z) : ∀ p ∈ ts.zip (ZQ d (ts.map l)), 0 <= p.2 := λp hp => by
 obtain ⟨i, hi, e⟩ := VH hp
 rw [List.getElem_zip] at e
 have hi1 : i < ts.length := by rw [Vi] at hi; omega
 have hi2 : i < (ZQ d (ts.map l)).length := by rw [Vi] at hi; omega
 have := (ZeQ d (ts.map l) hd (λx hx => by obtain ⟨z, hz, rfl⟩ := Yk.mp hx; exact hl z hz)).1 i (l ts[i]) (ZQ d (ts.map l))[i] (by rw [Yi, Yc hi1]; rfl) (Yc hi2)
 rw [<- e]
 exact this.1
def ZbZ {ts : List Str} {d : Int} {l : Str -> Int} (hd : 0 <= d) (hl : ∀ z ∈ ts, 0 <= l z) (z : Str) : JG (Zm ts d l) z = JG (ts.zip (ZQ d (ts.map l))) z := by
 unfold JG Zm
 rw [Zaz]
 refine Zbb λp hp => ?_
 have := Zhu hd hl p hp
 by_cases c : 0 < p.2
 ·rw [if_pos (Y8 c)]
 ·rw [if_neg (by simpa using c)]
  split
  ·omega
  ·rfl
def ZkM {ss ts : List Str} {d : Int} {l : Str -> Int} (hn : ss.Nodup) (hs : ∀ z ∈ ts, z ∈ ss) (hd : 0 <= d) (hl : ∀ z ∈ ts, 0 <= l z) (hge : d <= sm ts l) : sm ss (JG (Zm ts d l)) = d := by
 rw [Zbb λz _ => ZbZ hd hl z]
 unfold JG
 rw [Zkj]
 have e : sm (ts.zip (ZQ d (ts.map l))) (λy => sm ss λx => if x = y.1 then y.2 else 0) = sm (ts.zip (ZQ d (ts.map l))) (λp => p.2) := Zbb λp hp => by
  have hp1 : p.1 ∈ ss := hs _ (VP hp).1
  exact Zdf hn hp1 λ_ => p.2
 rw [e]
 have e2 : sm (ts.zip (ZQ d (ts.map l))) (λp => p.2) = (ZQ d (ts.map l)).sum := by
  unfold sm
  rw [show (ts.zip (ZQ d (ts.map l))).map (λp => p.2) = (ts.zip (ZQ d (ts.map l))).map Prod.snd from rfl, List.map_snd_zip (by rw [Zc1, Yg]; exact Yd _)]
 rw [e2]
 exact (ZeQ d (ts.map l) hd λx hx => by obtain ⟨z, hz, rfl⟩ := Yk.mp hx; exact hl z hz).2 hge
def ZcQ {ts : List Str} {d : Int} {l : Str -> Int} {p : Str × Int} (h : p ∈ Zm ts d l) : p.1 ∈ ts /\ 0 < p.2 := by
 obtain ⟨h1, h2⟩ := Yt.mp h
 exact ⟨(List.of_mem_zip h1).1, by simpa using h2⟩
theorem ZlM {rs : List (Nat × Rat)} {hf : Str -> Nat} {ss ts : List Str} {cs : Nat -> Int} {a : Str -> Int} {fr : List Nat} {i r : Nat} {pay : Nat -> Str -> Int} (hn : ss.Nodup) (hfn : fr.Nodup) (hr : fr[i]? = some r) (hc : ∀ k, 0 <= cs k) (hP : PayOk rs hf ss cs (fr.take i) pay)
  (hU : ts.Perm (ss.filter λz => decide (r ∈ wayL rs (hf z)))) (hl : ∀ z ∈ ss, 0 <= a z - sm fr (λk => pay k z)) (hge : cs r <= sm ts λz => a z - sm fr (λk => pay k z)) :
  ∃ pay', PayOk rs hf ss cs (fr.take (i + 1)) pay' /\ ∀ z, a z - sm fr (λk => pay' k z) = (a z - sm fr (λk => pay k z)) - JG (Zm ts (cs r) λz => a z - sm fr (λk => pay k z)) z := by
 have hts : ∀ z ∈ ts, z ∈ ss /\ r ∈ wayL rs (hf z) := λz hz => by have := List.mem_filter.mp (hU.mem_iff.mp hz); simpa using this
 have hlt : ∀ z ∈ ts, 0 <= a z - sm fr (λk => pay k z) := λz hz => hl z (hts z hz).1
 have htn : ts.Nodup := hU.symm.nodup (hn.filter _)
 have hrD : r ∉ fr.take i := λc => by
  have h1 : (fr.take (i + 1)).Nodup := hfn.sublist (Vw _ _)
  rw [Yw, hr] at h1
  exact (List.nodup_append.mp h1).2.2 r c r (by simp) rfl
 have h0 : ∀ z, pay r z = 0 := λz => by
  by_cases h : pay r z = 0
  ·exact h
  ·exact absurd (hP.on r z h).1 hrD
 have hz := Zex ts (cs r) (λz => a z - sm fr (λk => pay k z)) htn (hc r) hlt
 have tk : ∀ k, k ∈ fr.take (i + 1) ↔ k ∈ fr.take i \/ k = r := λk => by rw [List.take_add_one, hr, List.mem_append]; simp
 refine ⟨λk z => if k = r then JG (Zm ts (cs r) λz => a z - sm fr (λk => pay k z)) z else pay k z, ⟨λk z => ?_, λk z h => ?_, λk hk => ?_⟩, λz => ?_⟩
 ·show 0 <= if k = r then _ else _
  split
  ·rw [ZbZ (hc r) hlt]; exact (hz z).1
  ·exact hP.nn k z
 ·by_cases c : k = r
  ·have h : JG (Zm ts (cs r) λz => a z - sm fr (λk => pay k z)) z ≠ 0 := by simpa [c] using h
   rw [ZbZ (hc r) hlt] at h
   have hzt : z ∈ ts := VE λhn => h ((hz z).2.1 hn)
   exact ⟨(tk k).mpr (.inr c), (hts z hzt).1, c ▸ (hts z hzt).2⟩
  ·have h : pay k z ≠ 0 := by simpa [c] using h
   obtain ⟨h1, h2, h3⟩ := hP.on k z h
   exact ⟨(tk k).mpr (.inl h1), h2, h3⟩
 ·by_cases c : k = r
  ·subst c
   simp only [if_true]
   exact ZkM hn (λz hz => (hts z hz).1) (hc k) hlt hge
  ·simp only [if_neg c]
   exact hP.full k (((tk k).mp hk).resolve_right c)
 ·have hrf : r ∈ fr := Yq hr
  have e : sm fr (λk => if k = r then JG (Zm ts (cs r) λz => a z - sm fr (λk => pay k z)) z else pay k z) = sm fr (λk => pay k z) + sm fr (λk => if k = r then JG (Zm ts (cs r) λz => a z - sm fr (λk => pay k z)) z else 0) := by
   rw [<- Zfo]
   refine Zbb λk _ => ?_
   by_cases c : k = r
   ·rw [if_pos c, if_pos c, c, h0]; omega
   ·rw [if_neg c, if_neg c]; omega
  show a z - sm fr (λk => if k = r then _ else _) = _
  rw [e, Zdf hfn hrf λ_ => JG (Zm ts (cs r) λz => a z - sm fr (λk => pay k z)) z]
  omega
def Zpa {rs : List (Nat × Rat)} {hf : Str -> Nat} {ss G : List Str} {cs : Nat -> Int} {a : Str -> Int} {z : Str} (hO : ∀ z ∈ ss, WayR rs (hf z) (wayL rs (hf z))) (hn : ss.Nodup) (hc : ∀ k, 0 <= cs k) (htot : ∀ ks : List Nat, ks.Nodup -> (∀ k, k ∈ ks ↔ Jl rs (ss.map hf) k) -> sm ks cs = sm ss a)
  (hz : z ∈ ss) (ha : a z < 0) (hG : G.Perm (ss.filter λy => !decide (y ∈ [z]))) : ZjV rs hf cs a G := by
 classical
 intro acc han ham
 have hnr : (List.range' 1 rs.length).Nodup := (List.pairwise_lt_range' (s := 1) (n := rs.length)).imp λh e => by rw [e] at h; exact YF _ h
 have hGm : ∀ y ∈ G, y ∈ ss := λy hy => (Yt.mp (hG.mem_iff.mp hy)).1
 have hks := htot ((List.range' 1 rs.length).filter λk => decide (Jl rs (ss.map hf) k)) (hnr.filter _) λk => by
  rw [Yt, VM, Ve]
  exact ⟨λh => h.2, λh => ⟨⟨(Z0 h).1, by have := (Z0 h).2; omega⟩, h⟩⟩
 have key := Zkb (cs := cs) (g := λ_ => 0) han (hnr.filter λk => decide (Jl rs (ss.map hf) k)) (λk hk => ?_) (λk _ _ => by have := hc k; omega) λ_ _ => rfl
 ·rw [hks, Zbk (f := λ_ => 0) λ_ _ => rfl] at key
  have e1 : sm ss a = sm (ss.filter λy => decide (y ∈ [z])) a + sm (ss.filter λy => !decide (y ∈ [z])) a := Zgv ss (λy => decide (y ∈ [z])) a
  have e2 : sm (ss.filter λy => decide (y ∈ [z])) a = a z := by
   rw [Zaz]
   have : (λx => if decide (x ∈ [z]) = true then a x else 0) = λx => if x = z then a x else 0 := by
    funext x
    simp
   rw [this]
   exact Zdf hn hz a
  rw [ZdF hG]
  omega
 ·obtain ⟨y, hy, hky⟩ := (ZaP λz hz => hO z (hGm z hz)).mp ((ham k).mp hk)
  have hN : Jl rs (ss.map hf) k := (ZaP hO).mpr ⟨y, hGm y hy, hky⟩
  rw [Yt, VM, Ve]
  exact ⟨⟨(Z0 hN).1, by have := (Z0 hN).2; omega⟩, hN⟩
def ZrS (B : Nat) (H : Hp) (v : V) (p : Nat × Str × Int) : Prop := ∃ t r, v = .ref t /\ H t = some (.tup [.int (p.1 : Int), .str p.2.1, r]) /\ RatV H r (Zs B p.2.2)
def Zq4 (B : Nat) (H : Hp) (tvs : List V) (ps : List (Nat × Str × Int)) : Prop := ListV (ZrS B) H tvs ps
def Zfm {B : Nat} : Zgb (ZrS B) := λH H' v p h s => let ⟨t, r, a1, a2, a3⟩ := h; ⟨t, r, a1, s _ _ a2, a3.keep s⟩
structure TabI (D : List Nat) (ps : List (Nat × Str × Int)) : Prop where
 row : ∀ p ∈ ps, p.1 ∈ D
 one : (ps.map λp => (p.1, p.2.1)).Nodup
def Zos {rows : List (Str × Int)} {z : Str} (h : z ∉ rows.map (·.1)) : JG rows z = 0 := Zbk λp hp => by
 have hne : z ≠ p.1 := λe => h (by rw [e]; exact V4 hp)
 show (if z = p.1 then p.2 else 0) = 0
 rw [if_neg hne]
def Zmy : ∀ {rows : List (Str × Int)} {p : Str × Int}, (rows.map (·.1)).Nodup -> p ∈ rows -> JG rows p.1 = p.2
 | [], _, _, h => by cases h
 | q :: rows, p, hn, h => by
  rw [Yr, Y6] at hn
  unfold JG
  rw [ZD]
  rcases Ym.mp h with rfl | h
  ·rw [if_pos rfl]
   have := Zos hn.1
   unfold JG at this
   omega
  ·have hne : p.1 ≠ q.1 := λe => hn.1 (e ▸ V4 h)
   rw [if_neg hne]
   have := Zmy hn.2 h
   unfold JG at this
   omega
def Zd5 {ts : List Str} {d : Int} {l : Str -> Int} (hn : ts.Nodup) : ((Zm ts d l).map (·.1)).Nodup := by
 have h1 : ((Zm ts d l).map (·.1)).Sublist ((ts.zip (ZQ d (ts.map l))).map (·.1)) := (List.filter_sublist).map _
 rw [show (ts.zip (ZQ d (ts.map l))).map (·.1) = (ts.zip (ZQ d (ts.map l))).map Prod.fst from rfl, List.map_fst_zip (by rw [Zc1, Yg]; exact Yd _)] at h1
 exact hn.sublist h1
def Zfb {y : Str} {ts : List Str} {d : Int} {l : Str -> Int} : Zm (y :: ts) d l = (if 0 < min (l y) d then [(y, min (l y) d)] else []) ++ Zm ts (d - min (l y) d) l := by
 unfold Zm
 rw [Yr, ZQ, List.zip_cons_cons]
 by_cases c : 0 < min (l y) d
 ·rw [List.filter_cons_of_pos (by simpa using c), if_pos c]; rfl
 ·rw [List.filter_cons_of_neg (by simpa using c), if_neg c]; rfl
def Zft : ∀ {ts : List Str} {l : Str -> Int}, (∀ z ∈ ts, 0 <= l z) -> Zm ts 0 l = []
 | [], _, _ => rfl
 | y :: ts, l, h => by
  have h0 := h y (.head _)
  rw [Zfb, if_neg (by omega), show (0 : Int) - min (l y) 0 = 0 by omega, Zft λz hz => h z (.tail _ hz)]
  rfl
def Ze9 : ∀ {ts : List Str} {d : Int} {l : Str -> Int}, 0 <= d -> (∀ z ∈ ts, 0 <= l z) -> ((Zm ts d l).filter λp => !decide (p.2 = l p.1)).length <= 1
 | [], _, _, _, _ => YA _
 | y :: ts, d, l, hd, h => by
  have h0 := h y (.head _)
  have h1 : ∀ z ∈ ts, 0 <= l z := λz hz => h z (.tail _ hz)
  rw [Zfb, VI, YS]
  by_cases c : l y <= d
  ·rw [show min (l y) d = l y by omega]
   have := Ze9 (ts := ts) (d := d - l y) (l := l) (by omega) h1
   split
   ·simp at this ⊢; exact this
   ·simp at this ⊢; exact this
  ·rw [show min (l y) d = d by omega, Int.sub_self, Zft h1]
   split
   ·exact Yh (Vp (Nat.add_zero _)) (YK _ _)
   ·exact YA _
def ZiY {α : Type} (l : List α) (p : α -> Bool) : l.length = (l.filter p).length + (l.filter λx => !p x).length := by
 induction l with
 | nil => rfl
 | cons x l ih =>
  by_cases c : p x = true
  ·rw [List.filter_cons_of_pos c, List.filter_cons_of_neg (by simp [c]), List.length_cons, List.length_cons, ih]; omega
  ·rw [List.filter_cons_of_neg c, List.filter_cons_of_pos (by simpa using c), List.length_cons, List.length_cons, ih]; omega
def Zqu (l : Str -> Int) (ss : List Str) : Nat := (ss.filter λz => decide (l z = 0)).length
def ZlX {ss ts : List Str} {d : Int} {l : Str -> Int} (hn : ss.Nodup) (htn : ts.Nodup) (hts : ∀ z ∈ ts, z ∈ ss) (hd : 0 <= d) (hl : ∀ z ∈ ts, 0 <= l z) : (Zm ts d l).length + Zqu l ss <= 1 + Zqu (λz => l z - JG (Zm ts d l) z) ss := by
 have h1 := Ze9 hd hl
 have hz := Zex ts d l htn hd hl
 have hra := ZbZ hd hl
 have hnm := Zd5 (d := d) (l := l) htn
 have hsp : (Zm ts d l).length = ((Zm ts d l).filter λp => decide (p.2 = l p.1)).length + ((Zm ts d l).filter λp => !decide (p.2 = l p.1)).length := ZiY _ _
 have hsub : (ss.filter (λz => decide (l z = 0)) ++ ((Zm ts d l).filter λp => decide (p.2 = l p.1)).map (·.1)).length <= (ss.filter λz => decide (l z - JG (Zm ts d l) z = 0)).length := by
  refine V1 ?_ λz hz' => ?_
  ·refine Yav.mpr ⟨hn.filter _, hnm.sublist (List.filter_sublist.map _), λx hx y hy e => ?_⟩
   obtain ⟨p, hp, rfl⟩ := Yk.mp hy
   have hp' := Yt.mp hp
   have := (ZcQ hp'.1).2
   have e1 : p.2 = l p.1 := by simpa using hp'.2
   have e2 : l x = 0 := by simpa using (List.mem_filter.mp hx).2
   rw [e] at e2
   omega
  ·rcases Yu.mp hz' with h | h
   ·obtain ⟨g1, g2⟩ := Yt.mp h
    have g2 : l z = 0 := by simpa using g2
    refine Yt.mpr ⟨g1, ?_⟩
    have g3 := hz z
    rw [<- hra z] at g3
    have : JG (Zm ts d l) z = 0 := by
     by_cases c : z ∈ ts
     ·have := g3.2.2 c; have := g3.1; omega
     ·exact g3.2.1 c
    rw [g2, this]
    rfl
   ·obtain ⟨p, hp, rfl⟩ := Yk.mp h
    obtain ⟨g1, g2⟩ := Yt.mp hp
    have g2 : p.2 = l p.1 := by simpa using g2
    refine Yt.mpr ⟨hts _ (ZcQ g1).1, ?_⟩
    rw [Zmy hnm g1]
    simp
    omega
 rw [YS, Yg] at hsub
 show (Zm ts d l).length + (ss.filter λz => decide (l z = 0)).length <= 1 + (ss.filter λz => decide (l z - JG (Zm ts d l) z = 0)).length
 omega
def Zlp {rows : List (Str × Int)} {D : List Nat} {r : Nat} {ps : List (Nat × Str × Int)} (hr : r ∉ D) (hn : (rows.map (·.1)).Nodup) (hT : TabI D ps) : TabI (D ++ [r]) (ps ++ rows.map λp => (r, p.1, p.2)) := by
 refine ⟨λp hp => ?_, ?_⟩
 ·rcases Yu.mp hp with hp | hp
  ·exact Vt _ (hT.row p hp)
  ·obtain ⟨q, _, rfl⟩ := Yk.mp hp
   exact List.mem_append_right _ (by simp)
 ·rw [YW, Yv]
  refine Yav.mpr ⟨hT.one, ?_, λx hx y hy e => ?_⟩
  ·have h6 : rows.map ((λp : Nat × Str × Int => (p.1, p.2.1)) ∘ λp => (r, p.1, p.2)) = (rows.map (·.1)).map λz => (r, z) := by rw [Yv]; rfl
   rw [h6]
   exact Vx.mpr (hn.imp λh e => h (by injection e))
  ·obtain ⟨p, hp, rfl⟩ := Yk.mp hx
   obtain ⟨q, _, rfl⟩ := Yk.mp hy
   have e1 : p.1 = r := congrArg Prod.fst e
   exact hr (e1 ▸ hT.row p hp)
def Zk5 {B : Nat} {H : Hp} {tvs : List V} {ps : List (Nat × Str × Int)} (hT : Zq4 B H tvs ps) : ∀ x ∈ (tvs.zip ps).map (λx => ((x.1, (x.2.1 : Int), x.2.2.1) : V × Int × Str)), ∃ t r, x.1 = .ref t /\ H t = some (.tup [.int x.2.1, .str x.2.2, r]) := λx hx => by
 obtain ⟨z, hz, rfl⟩ := Yk.mp hx
 obtain ⟨j, hj, e⟩ := VH hz
 rw [List.getElem_zip] at e
 rw [Vi] at hj
 obtain ⟨t, r, h1, h2, _⟩ := hT.2 j _ _ (Yc (show j < tvs.length by omega)) (Yc (show j < ps.length by omega))
 rw [<- e]
 exact ⟨t, r, h1, h2⟩
def Zg4 {α β γ : Type} {tvs : List α} {ps : List β} (g : β -> γ) (hl : tvs.length = ps.length) : ((tvs.zip ps).map λx => (x.1, g x.2)).map (·.1) = tvs /\ ((tvs.zip ps).map λx => (x.1, g x.2)).map (·.2) = ps.map g := by
 rw [Yv, Yv]
 refine ⟨?_, ?_⟩
 ·show (tvs.zip ps).map Prod.fst = tvs
  exact List.map_fst_zip (by omega)
 ·show (tvs.zip ps).map (g ∘ Prod.snd) = _
  rw [<- Yv, List.map_snd_zip (by omega)]
def Pj1 (H0 : Hp) (x : V) (d sd : Addr) (a : Str -> Int) (ts : List Str) (i : Nat) (Z : St) (H : Hp) : Prop := ∃ o : Option V, Z = [some x, some (.ref d), some (.ref sd), o, none, none, none, none, none] /\ Same H0 H /\ ∀ z ∈ ts.take i, 0 <= a z
def Zj (a : Str -> Int) (fr : List Nat) (pay : Nat -> Str -> Int) (z : Str) : Int := a z - sm fr (λk => pay k z)
def Pj2 (H0 : Hp) (x : V) (d sd lv tb : Addr) (rs : List (Nat × Rat)) (ss : List Str) (hf : Str -> Nat) (B : Nat) (a : Str -> Int) (cs : Nat -> Int) (fp : Addr) (fr : List Nat) (i : Nat) (Z : St) (H : Hp) : Prop := ∃ (o3 o6 o7 o8 : Option V) (lvs : List (ZC × V)) (tvs : List V) (pay : Nat -> Str -> Int) (ps : List (Nat × Str × Int)),
 Z = [some x, some (.ref d), some (.ref sd), o3, some (.ref lv), some (.ref tb), o6, o7, o8] /\ Same H0 H /\ H fp = some (.lst (ZN fr)) /\ H lv = some (.dK lvs) /\ H tb = some (.lst tvs) /\ Zq4 B H tvs ps /\ ps.length <= i + Zqu (Zj a fr pay) ss /\ TabI (fr.take i) ps /\ ShV H lvs ss (λz => Zs B (Zj a fr pay z)) /\ PayOk rs hf ss cs (fr.take i) pay /\ ∀ z ∈ ss, 0 <= Zj a fr pay z
def Pj3 (H0 : Hp) (x : V) (d sd lv tb : Addr) (ss : List Str) (B : Nat) (l : Str -> Int) (fp pp rp : Addr) (fr : List Nat) (v6 : V) (xs : List V) (rows : List (Str × Int)) (ps : List (Nat × Str × Int)) (k : Nat) (j : Nat) (Z : St) (H : Hp) : Prop := ∃ (o3 o8 : Option V) (lvs : List (ZC × V)) (tvs : List V),
 Z = [some x, some (.ref d), some (.ref sd), o3, some (.ref lv), some (.ref tb), some v6, some (.ref pp), o8] /\ Same H0 H /\ H fp = some (.lst (ZN fr)) /\ H lv = some (.dK lvs) /\ H tb = some (.lst tvs) /\ Zq4 B H tvs (ps ++ (rows.take j).map λp => (k, p.1, p.2)) /\ H rp = some (.lst xs) /\ ZnD B H xs rows /\ ShV H lvs ss (λz => Zs B (l z - JG (rows.take j) z))
def Zcm (pt CT CNS : Addr) : Sp := λvs H Q E => ∃ (x : V) (d sd : Addr) (rs : List (Nat × Rat)) (o : Obj) (kvs svs : List (ZC × V)) (ss ts : List Str) (hf : Str -> Nat) (B : Nat) (a : Str -> Int) (cs : Nat -> Int), vs = [x, .ref d, .ref sd] /\ ((Jd H CT x d sd rs o kvs svs ss hf B a cs /\ ZfG H pt "far_roads_first.<locals>.<lambda>" /\
 (∀ r H' g (G : List Str), H g = none -> Same H H' -> H' r = some (.tup [.str (Str.ofString "refused"), .ref g]) -> H' g = some (.lst (G.map V.str)) -> G.Pairwise leS -> G.Nodup -> (∀ z ∈ G, z ∈ ss) -> ZjV rs hf cs a G -> Q (.ref r) H') /\
 ∀ r H' g (tvs : List V), H g = none -> Same H H' -> H' r = some (.tup [.str (Str.ofString "good"), .ref g]) -> H' g = some (.lst tvs) -> Q (.ref r) H') \/ (Nj H CT x d sd rs o kvs svs ss ts hf B a cs /\ ∀ H', Same H H' -> E (.ref CNS) none H'))
section
variable {P : Program} {w : World} {K : PySem.W.Frag} {mg : Str -> Option Value} {base : Heap} {f pt : Addr} {fd : FuncData} {CT CNP CNS : Addr}
def Zkm (F : FunD K "judged" "judged" ZaD .none f fd) (ZT : mg "sorted" = none) (JD : mg "dict" = none) (Zag : Fn P w K mg base (CX1 P w) 7 "look_sharing" ["tree", "homes", "sharing"] (ZcL CT CNS)) (ZcK : Fn P w K mg base Zx 1 "others" ["homes", "names"] Zfy) (Zax : Fn P w K mg base Zx 8 "far_roads_first" ["tree", "homes"] (ZmL pt CT))
  (Zga : Fn P w K mg base Zx 5 "users" ["tree", "homes", "k"] (λvs H Q _ => Zgy CT CNP vs H Q E0)) (ZaL : Fn P w K mg base Zx 1 "is_less" ["one", "other"] ZfJ) (Zao : Fn P w K mg base Zx 4 "total_of" ["some"] (ZcM K)) (ZbM : Mth P w K mg base Zx 4 CT "price" ["self", "k"] (λvs H Q _ => Zdl CT CNP vs H Q E0))
  (Zct : Fn P w K mg base Zx 4 "payments" ["price", "payers", "left"] Zkd) (Za0 : Fn P w K mg base Zx 3 "rest_of" ["one", "other"] ZeS) : FnOk P w K mg base (CX1 P w) 9 f fd ["tree", "homes", "sharing"] (Zcm pt CT CNS) := by
 refine okX F sc_judged (λvs H Q E h => ?_) (λcdv A outer s H vs Q E hr h => ?_)
 ·obtain ⟨x, d, sd, rs, o, kvs, svs, ss, ts, hf, B, a, cs, rfl, _⟩ := h; rfl
 obtain ⟨x, d, sd, rs, o, kvs, svs, ss, ts0, hf, B, a, cs, rfl, h⟩ := h
 refine ⟨_, (Zd (Ja (ZoO ZdO Zag hr (by decide) rfl (Zg (Zf 0) (Zg (Zf 1) (Zg (Zf 2) Za)))))
   (Zd (Jr PassesOwn.leaving (Ju (Zm9 rfl ZT (Zg (Zf 1) Za))) (Zw 3 sc_judged.nd) (Zh (Jo (ZoS (ZI (JC (Jm hr) (Zf 2) (Zf 3)) Zc) Zc) (Zh (Zy (Js (Zg JR (Zg (ZB ZcK hr (by decide) rfl (Zg (Zf 1) (Zg (JJ (Zg (Zf 3) Za)) Za))) Za))))) Je)))
   (Zd (Zo 4 sc_judged.nd (ZeA rfl JD (Zg (Zf 2) Za)))
   (Zd (Zo 5 sc_judged.nd (JJ Za))
   (Zd (Jr PassesOwn.leaving (Ju (ZB Zax hr (by decide) rfl (Zg (Zf 0) (Zg (Zf 1) Za)))) (Zw 6 sc_judged.nd) (Zd (Zo 7 sc_judged.nd (ZB Zga hr (by decide) rfl (Zg (Zf 0) (Zg (Zf 1) (Zg (Zf 6) Za)))))
   (Zd (Jo (Jx (ZB ZaL hr (by decide) rfl (Zg (ZB Zao hr (by decide) rfl (Zg (ZgU (ZlK ["name"] [4] ["left"]) (Ju (Zf 7)) (by exact λs H fp => (Zw 0 (show List.Nodup (["name", "left"] : List Str) from by decide +kernel))) (by exact λs H fp => (JC (Jm hr) (Zf 1) (Zf 0)))) Za)) (Zg (ZbI ZbM hr (by decide) (Zf 0) (Zg (Zf 6) Za)) Za)))) (Zh (Zy (Js (Zg JR (Zg (ZB ZcK hr (by decide) rfl (Zg (Zf 1) (Zg (Zf 7) Za))) Za))))) Je)
   (Zh (Jr PassesOwn.leaving (Ju (ZB Zct hr (by decide) rfl (Zg (ZbI ZbM hr (by decide) (Zf 0) (Zg (Zf 6) Za)) (Zg (Zf 7) (Zg (Zf 4) Za))))) (Zhz (n := 2) (Jh (Zw 3 sc_judged.nd) (Jh (Zw 8 sc_judged.nd) Zd6))) (Zd (Zcv (Jm hr) (Zf 4) (Zf 3) (ZB Za0 hr (by decide) rfl (Zg (JC (Jm hr) (Zf 4) (Zf 3)) (Zg (Zf 8) Za))))
   (Zh (Ja (Zed (Zf 5) (Zg (Js (Zg (Zf 6) (Zg (Zf 3) (Zg (Zf 8) Za)))) Za))))))))))
   (Zh (Zy (Js (Zg JR (Zg (ZhJ rfl ZT (Zg (Zf 5) Za)) Za)))))))))), ?_⟩
 rw [show Zu ["tree", "homes", "sharing", "name", "left", "table", "road", "payers", "amount"] [x, .ref d, .ref sd] = [some (x), some (.ref d), some (.ref sd), none, none, none, none, none, none] from rfl]
 rcases h with ⟨J, hTb, q, q2⟩ | ⟨J, q⟩
 rotate_left
 ·refine ZV λR0 hR0 => ?_
  walk_at "rd"
  exact ⟨x, d, sd, rs, o, kvs, svs, ss, ts0, hf, B, a, cs, rfl, .inr ⟨J, q⟩⟩
 have hO := J.way
 have hfew := J.few
 refine ZV λR0 hR0 => ?_
 walk_at "rd"
 refine ⟨x, d, sd, rs, o, kvs, svs, ss, ts0, hf, B, a, cs, rfl, .inl ⟨J, λH1 s1 => ?_⟩⟩
 subst hR0
 try dsimp only
 refine ZV λR0 hR0 => ?_
 rw [Za1]
 walk_at "rd"
 refine ⟨kvs, .inr ⟨o, s1 _ _ J.home⟩, ss, J.kv, by omega, λl H2 ts hl s2 e2 hso hpe => ?_⟩
 have s12 := s1.trans s2
 refine ZbD (xs := ts.map V.str) (λi Z H' => Pj1 H x d sd a ts i Z H' /\ H' l = some (.lst (ts.map V.str))) ⟨⟨_, rfl, s12, λz hz => by simp at hz⟩, e2⟩ (λi Z H' _ hP => ?_) (λi y Z H' hi hP => ?_) (λZ H' hP => ?_)
 ·exact .of hP.2
 ·obtain ⟨⟨o3, rfl, sm', hnn⟩, el⟩ := hP
  rw [Yi] at hi
  obtain ⟨z, hz, rfl⟩ := YG.mp hi
  have hzs : z ∈ ss := hpe.mem_iff.mp (Yq hz)
  have J' := J.same sm'
  obtain ⟨v, ev, rv⟩ := J'.shv.val J.nd z hzs
  obtain ⟨pv, rfl, hpv⟩ := id rv
  walk_at "rd"
  refine ⟨svs, J'.share, .inr z, rfl, _, ev, pv, rfl, _, hpv, _, rfl, _, rfl, ?_⟩
  by_cases c0 : a z < 0
  ·rw [if_pos ((Zgt J.b0 _).mpr c0)]
   intro gl H3 hgl s3 e3
   have s03 := sm'.trans s3
   refine ⟨d, gl, o, kvs, ss, [z], rfl, s03 _ _ J.home, J.kv, by omega, e3, λp H4 G hp s4 e4 hGw hGp => λr H5 hr5 s5 e5 => ?_⟩
   have hGm : ∀ y ∈ G, y ∈ ss := λy hy => (Yt.mp (hGp.mem_iff.mp hy)).1
   exact q r H5 p G (s03.free hp) (s03.trans (s4.trans s5)) e5 (s5 _ _ e4) hGw (hGp.symm.nodup (J.nd.filter _)) hGm (Zpa hO J.nd J.c0 J.tot hzs c0 hGp)
  ·rw [if_neg (λc => c0 ((Zgt J.b0 _).mp c))]
   refine ⟨⟨_, rfl, sm', λy hy => ?_⟩, el⟩
   rw [Yw, hz, Yu] at hy
   rcases hy with hy | hy
   ·exact hnn y hy
   ·have : y = z := by simpa using hy
    rw [this]; omega
 ·obtain ⟨⟨o3, rfl, sm', hnn⟩, el⟩ := hP
  have hnn' : ∀ z ∈ ss, 0 <= a z := λz hz => hnn z (by rw [Yg, YE]; exact hpe.mem_iff.mpr hz)
  subst hR0
  try dsimp only
  have J' := J.same sm'
  walk_at "rd"
  refine ⟨sd, svs, rfl, J'.share, λlv H3 hlv s3 e3 tb H4 htb s4 e4 => ?_⟩
  have s04 := sm'.trans (s3.trans s4)
  have hne : lv ≠ tb := Zp e3 htb
  have hlv0 : H lv = none := sm'.free hlv
  have htb0 : H tb = none := (sm'.trans s3).free htb
  rw [Za1]
  walk_at "rd"
  refine ⟨x, rs, d, kvs, ss, hf, rfl, J.tree.same s04, .inr ⟨o, s04 _ _ J.home⟩, J.kv, J.hat, J.rl, by omega, J.ok, let ⟨t, ht⟩ := hTb; ⟨t, s04 _ _ ht⟩, λfp H5 fr hfp s5 e5 hfn hfm hfw => ?_⟩
  have s05 := s04.trans s5
  have htot := J.tot fr hfn hfm
  have hbd : ∀ k ∈ fr, 1 <= k /\ k <= rs.length := λk hk => Z0 ((hfm k).mp hk)
  have hfl : fr.length <= 20 := Yh (ZiQ hfn hbd) J.rl
  have hp0 : PayOk rs hf ss cs (fr.take 0) (λ_ _ => 0) := ⟨λ_ _ => Int.le_refl _, λk z h => absurd rfl h, λk hk => by simp at hk⟩
  have hl0 : ∀ z, Zj a fr (λ_ _ => 0) z = a z := λz => by unfold Zj; rw [Zbk λ_ _ => rfl]; omega
  refine ZbD (xs := ZN fr) (Pj2 H x d sd lv tb rs ss hf B a cs fp fr) ⟨_, _, _, _, svs, [], λ_ _ => 0, [], rfl, s05, e5, (s4.trans s5) _ _ e3, s5 _ _ e4, ⟨rfl, λi x p h => by simp at h⟩, Nat.zero_le _, ⟨(λp hp => by cases hp), List.nodup_nil⟩, ?_, hp0, λz hz => by rw [hl0]; exact hnn' z hz⟩ (λi Z H' _ hP => ?_) (λi y Z H6 hi hP => ?_) (λZ H6 hP => ?_)
  ·have e : (λz => Zs B (Zj a fr (λ_ _ => 0) z)) = λz => Zs B (a z) := funext λz => by rw [hl0]
   rw [e]
   exact J.shv.keep λb ys e => s05 _ _ e
  ·obtain ⟨_, _, _, _, _, _, _, _, _, _, e', _⟩ := hP
   exact .of e'
  ·obtain ⟨o3, o6, o7, o8, lvs, tvs, pay, ps, rfl, s6, ef6, el6, et6, htab6, hcnt6, hTI6, hS6, hP6, hL6⟩ := hP
   have hil : i < fr.length := by have := (List.getElem?_eq_some_iff.mp hi).1; simpa [ZN] using this
   have hri := Yc hil
   have hy : y = V.int (fr[i] : Int) := by
    unfold ZN at hi
    rw [Yi, hri] at hi
    cases hi
    rfl
   subst hy
   obtain ⟨b1, b2⟩ := hbd _ (YI hil)
   have J6 := J.same s6
   have hin : inR rs ((fr[i] : Nat) : Int) := ⟨by omega, by omega⟩
   refine ZV λR0 hR0 => ?_
   walk_at "rd"
   refine ⟨x, rs, d, _, rfl, J6.tree, by have := J.rl; omega, λk' ek _ => ⟨o, kvs, ss, hf, J6.home, Vil.of J.kv (by omega) J.hat, λpp H7 ts7 hpp s7 e7 hpw7 hpm7 => ?_⟩, λhno => absurd hin hno⟩
   have ek' : k' = fr[i] := by omega
   subst ek'
   have hts : ∀ z ∈ ts7, z ∈ ss := λz hz => (Yt.mp (hpm7.mem_iff.mp hz)).1
   have htl7 : ts7.length <= 12 := Yh (Yh (Vp hpm7.length_eq) (YK _ _)) hfew
   have s07 := s6.trans s7
   have J7 := J.same s07
   have el7 := s7 _ _ el6
   have hS7 := hS6.keep λb ys e => s7 _ _ e
   have lsz : ∀ z ∈ ss, (Zj a fr pay z).natAbs < 2 ^ 2600 := λz hz => by
    have h1 := hL6 z hz
    have h2 := J.az z hz
    have h3 : 0 <= sm fr (λk => pay k z) := Zc4 λk _ => hP6.nn k z
    have h4 := hnn' z hz
    unfold Zj at h1 ⊢
    omega
   subst hR0
   try dsimp only
   refine ZV λR0 hR0 => ?_
   refine JH λA0 hA0 C0 hC0 => ?_
   walk_at "rd"
   simp only [JS, Zef, cxK]
   walk_at "rd"
   refine ⟨⟨_, .of e7⟩, ?_⟩
   rw [show Jn [some x, some (V.ref d), some (V.ref sd), o3, some (V.ref lv), some (V.ref tb), some (V.int (fr[i] : Int)), some (V.ref pp), o8] [4] = [some (V.ref lv)] from rfl]
   refine Zig RatV Zke (xs := ts7.map V.str) (as := (ts7.map (Zj a fr pay)).map (Zs B)) e7 (by simp) (by rw [List.length_map]; omega) (λi' y t' hi' ht' H' kk os sm'' ol hkk => ?_) (λpq H8 zs hpq s8 e8 hY => ?_)
   ·obtain ⟨o', rfl⟩ : ∃ o', os = [o'] := by match os, ol with | [o'], _ => exact ⟨o', rfl⟩
    rw [Yi] at hi'
    obtain ⟨z, hz', rfl⟩ := YG.mp hi'
    rw [Yv, Yi, hz'] at ht'
    cases ht'
    obtain ⟨v, ev, rv⟩ := (hS7.keep λb ys e => sm'' _ _ e).val J.nd z (hts z (Yq hz'))
    walk_at "rd"
    refine ⟨[some (.str z)], rfl, rfl, ?_⟩
    walk_at "rd"
    exact ⟨lvs, .inl (sm'' _ _ el7), .inr z, rfl, _, ev, hkk _ _ (λ_ _ w => w) rv⟩
   have hms : ∀ m ∈ ts7.map (Zj a fr pay), m.natAbs < 2 ^ 2700 := λm hm => by
    obtain ⟨z, hz, rfl⟩ := Yk.mp hm
    exact Yo (lsz z (hts z hz)) (YU (by decide) (by decide))
   refine ⟨pq, zs, _, rfl, .of e8, hY, Zc8 J.b0 J.b1 hms, by simp; omega, λr1 H9 s9 v1 => ?_⟩
   rw [Zep J.b0] at v1
   replace v1 : RatV H9 r1 (Zs B (sm ts7 (Zj a fr pay))) := v1
   have s79 := s8.trans s9
   have s09 := s07.trans s79
   have hT9 := J.tree.same s09
   obtain ⟨xa, dx, la, wa, ls, ws, rfl, h1, _⟩ := id hT9
   have hprc : Zl rs fr[i] = Zs B (cs fr[i]) := J.pr _ b1 b2
   have szc : SzQ 3000 (Zs B (cs fr[i])) := (Zbe J.b0 J.b1 (J.cz _)).mono (by decide)
   refine ⟨xa, rfl, dx, _, h1, rfl, .ref xa, rs, _, rfl, hT9, λk' r y ek hr2 hy => ?_, λzz => absurd hin zz⟩
   have eyp : RatV H9 y (Zs B (cs fr[i])) := by
    have ek' : fr[i] - 1 = k' := by omega
    have : Zl rs fr[i] = r.2 := by unfold Zl; rw [ek', hr2]; rfl
    rw [<- hprc, this]
    exact hy
   have szs : SzQ 3000 (Zs B (sm ts7 (Zj a fr pay))) := (Zbe (n := 2700) J.b0 (Yo J.b1 (YU (by decide) (by decide))) (Zrf htl7 λz hz => lsz z (hts z hz))).mono (by decide)
   refine ⟨r1, y, _, _, rfl, v1, eyp, szs, szc, _, rfl, ?_⟩
   by_cases c0 : sm ts7 (Zj a fr pay) < cs fr[i]
   ·rw [if_pos (Y8 ((ZaX J.b0).mpr c0))]
    subst hA0
    walk_at "rd"
    refine ⟨d, pp, o, kvs, ss, ts7, rfl, s09 _ _ J.home, J.kv, by omega, s79 _ _ e7, λp H10 G hp s10 e10 hGw hGp => λr' H11 hr11 s11 e11 => ?_⟩
    have hGm : ∀ y ∈ G, y ∈ ss := λy hy => (Yt.mp (hGp.mem_iff.mp hy)).1
    have hsp : fr = fr.take i ++ fr[i] :: fr.drop (i + 1) := by rw [<- Yak hil, YaI]
    have hov : ZjV rs hf cs a G := by
     refine ZiC (D := fr.take i) (r := fr[i]) (rest := fr.drop (i + 1)) (pay := pay) hO ?_ ?_ ?_ J.c0 hP6 ?_ hpm7 ?_ hGp
     ·rw [<- hsp]; exact hfn
     ·rw [<- hsp]; exact hfm
     ·rw [<- hsp]; exact hfw
     ·rw [<- hsp]; exact htot
     ·rw [<- hsp]; exact c0
    exact q r' H11 p G (s09.free hp) (s09.trans (s10.trans s11)) e11 (s11 _ _ e10) hGw (hGp.symm.nodup (J.nd.filter _)) hGm hov
   ·rw [if_neg (by rw [Ve, ZaX J.b0]; exact c0)]
    subst hC0
    walk_at "rd"
    subst hR0
    try dsimp only
    rw [Za1]
    walk_at "rd"
    refine ⟨dx, _, h1, rfl, .ref xa, rs, _, rfl, hT9, λk2 r2 y2 ek2 hr22 hy2 => ?_, λzz => absurd hin zz⟩
    have eyp2 : RatV H9 y2 (Zs B (cs fr[i])) := by
     have ek' : fr[i] - 1 = k2 := by omega
     have : Zl rs fr[i] = r2.2 := by unfold Zl; rw [ek', hr22]; rfl
     rw [<- hprc, this]
     exact hy2
    have hS9 := hS7.keep λb ys e => s79 _ _ e
    have el9 := s79 _ _ el7
    have et9 := (s7.trans s79) _ _ et6
    have ef9 := (s7.trans s79) _ _ ef6
    refine ⟨y2, pp, lv, lvs, ts7, B, cs fr[i], Zj a fr pay, rfl, eyp2, s79 _ _ e7, .inl el9, λz hz => hS9.val J.nd z (hts z hz), J.b0, J.b1, J.c0 _, J.cz _, λz hz => ⟨hL6 z (hts z hz), lsz z (hts z hz)⟩, by omega, λrp H10 xs10 hrp s10 e10 hR10 => ?_⟩
    have s710 := s79.trans s10
    have s010 := s09.trans s10
    have hlv10 : lv ≠ rp := Zp el9 hrp
    have htb10 : tb ≠ rp := Zp et9 hrp
    have hfp10 : fp ≠ lv := Jc ef9 el9 (by intro z; cases z)
    have hfpt : fp ≠ tb := (Zp e4 hfp).symm
    have hnr : ∀ p ∈ Zm ts7 (cs fr[i]) (Zj a fr pay), 0 <= p.2 := λp hp => Int.le_of_lt (ZcQ hp).2
    have hlt7 : ∀ z ∈ ts7, 0 <= Zj a fr pay z := λz hz => hL6 z (hts z hz)
    have htn : ts7.Nodup := hpm7.symm.nodup (J.nd.filter _)
    have hamt : ∀ z ∈ ss, JG (Zm ts7 (cs fr[i]) (Zj a fr pay)) z <= Zj a fr pay z := λz hz => by
     rw [ZbZ (J.c0 _) hlt7]
     have hh := Zex ts7 (cs fr[i]) (Zj a fr pay) htn (J.c0 _) hlt7 z
     by_cases c : z ∈ ts7
     ·exact hh.2.2 c
     ·rw [hh.2.1 c]; exact hL6 z hz
    have kpR : Zgb (λH v (p : Str × Int) => ∃ t r, v = .ref t /\ H t = some (.tup [.str p.1, r]) /\ RatV H r (Zs B p.2)) := λH H' v p h s => let ⟨t, r, a1, a2, a3⟩ := h; ⟨t, r, a1, s _ _ a2, a3.keep s⟩
    have hrl : (Zm ts7 (cs fr[i]) (Zj a fr pay)).length <= 12 := Yh (YK _ _) (by rw [Vi]; omega)
    have hxl10 : xs10.length = (Zm ts7 (cs fr[i]) (Zj a fr pay)).length := hR10.1
    refine ZbD (xs := xs10) (Pj3 H (.ref xa) d sd lv tb ss B (Zj a fr pay) fp pp rp fr (.int (fr[i] : Int)) xs10 (Zm ts7 (cs fr[i]) (Zj a fr pay)) ps fr[i]) ⟨_, _, lvs, tvs, rfl, s010, s10 _ _ ef9, s10 _ _ el9, s10 _ _ et9, by rw [List.take_zero, List.map_nil, Y7]; exact htab6.keep Zfm λb ys e => ((s7.trans s79).trans s10) _ _ e, e10, hR10, ?_⟩ (λj Z H' _ hP => ?_) (λj y Z H' hj hP => ?_) (λZ H' hP => ?_)
    ·have e : (λz => Zs B (Zj a fr pay z - JG ((Zm ts7 (cs fr[i]) (Zj a fr pay)).take 0) z)) = λz => Zs B (Zj a fr pay z) := funext λz => by rw [List.take_zero, ZoM, Int.sub_zero]
     rw [e]
     exact hS9.keep λb ys e => s10 _ _ e
    ·obtain ⟨_, _, _, _, _, _, _, _, _, _, e', _⟩ := hP
     exact .of e'
    ·obtain ⟨q3, q8, lv2, tv2, rfl, s11, ef11, el11, et11, htab11, er11, hR11, hS11⟩ := hP
     have hjl : j < xs10.length := (Yj.mp hj).1
     have hjr : j < (Zm ts7 (cs fr[i]) (Zj a fr pay)).length := by omega
     have hrj := Yc hjr
     obtain ⟨t, r, rfl, ht, hrv⟩ := hR11.2 j _ _ hj hrj
     obtain ⟨hn1, hn2⟩ := ZcQ (YI hjr)
     have hns := hts _ hn1
     obtain ⟨v, ev, rv⟩ := hS11.val J.nd _ hns
     have hpt := ZgQ hnr j (Zm ts7 (cs fr[i]) (Zj a fr pay))[j].1
     have hpt2 := ZgQ hnr (j + 1) (Zm ts7 (cs fr[i]) (Zj a fr pay))[j].1
     rw [Zev hrj, if_pos rfl] at hpt2
     have ha1 := hamt _ hns
     have ha2 := lsz _ hns
     have ha3 := hL6 _ hns
     have szv : SzQ 3000 (Zs B (Zj a fr pay (Zm ts7 (cs fr[i]) (Zj a fr pay))[j].1 - JG ((Zm ts7 (cs fr[i]) (Zj a fr pay)).take j) (Zm ts7 (cs fr[i]) (Zj a fr pay))[j].1)) := (Zbe J.b0 J.b1 (by omega)).mono (by decide)
     have szr : SzQ 3000 (Zs B (Zm ts7 (cs fr[i]) (Zj a fr pay))[j].2) := (Zbe J.b0 J.b1 (by omega)).mono (by decide)
     walk_at "rd"
     refine ⟨_, ht, rfl, _, _, rfl, _, _, rfl, rfl, lv2, .inl el11, .inr _, rfl, v, ev, v, r, _, _, rfl, rv, hrv, szv, szr, λr12 H12 s12' v12 => ?_⟩
     rw [ZgY J.b0] at v12
     have el12 := s12' _ _ el11
     have et12 := s12' _ _ et11
     have kp : ∀ b ys v', H12 b = some (.tup ys) -> upd H12 lv (.dK (Jf lv2 (Sum.inr (Zm ts7 (cs fr[i]) (Zj a fr pay))[j].1) v')) b = some (.tup ys) := λb ys v' e => by rw [Ze (Jc e el12 (by intro z; cases z))]; exact e
     refine ⟨lv2, el12, .inr _, rfl, by rw [hS11.1]; omega, ⟨tv2, by rw [Ze hne.symm]; exact et12⟩, λp13 H13 hp13 s13 e13 => ?_⟩
     have et13 : H13 tb = some (.lst tv2) := s13 _ _ (by rw [Ze hne.symm]; exact et12)
     have kp2 : ∀ b ys, H13 b = some (.tup ys) -> upd H13 tb (.lst (tv2 ++ [.ref p13])) b = some (.tup ys) := λb ys e => by rw [Ze (Jc e et13 (by intro z; cases z))]; exact e
     have hcz : Zqu (Zj a fr pay) ss <= ss.length := YK _ _
     have htl11 := htab11.1
     rw [YS, Yg, Y4] at htl11
     refine ⟨tv2, et13, by omega, _, _, Jf lv2 (Sum.inr (Zm ts7 (cs fr[i]) (Zj a fr pay))[j].1) r12, tv2 ++ [.ref p13], rfl, Zr htb0 ((Zr hlv0 (s11.trans s12')).trans s13), ?_, ?_, upd_same, ?_, ?_, ?_, ?_⟩
     ·rw [Ze hfpt]; exact s13 _ _ (by rw [Ze hfp10]; exact s12' _ _ ef11)
     ·rw [Ze hne]; exact s13 _ _ upd_same
     ·rw [Yw, hrj, YW, <- List.append_assoc]
      exact ListV.snoc (((((htab11.keep Zfm λb ys e => s12' _ _ e).keep Zfm λb ys e => kp b ys _ e).keep Zfm λb ys e => s13 _ _ e).keep Zfm kp2)) ⟨p13, r, rfl, kp2 _ _ e13, (((hrv.same s12').keep λb ys e => kp b ys _ e).same s13).keep kp2⟩
     ·rw [Ze htb10.symm]; exact s13 _ _ (by rw [Ze hlv10.symm]; exact s12' _ _ er11)
     ·exact (((hR11.keep kpR λb ys e => s12' _ _ e).keep kpR λb ys e => kp b ys _ e).keep kpR λb ys e => s13 _ _ e).keep kpR kp2
     ·refine ShV.keep (ShV.keep (ShV.put ((hS11.keep λb ys e => s12' _ _ e).keep λb ys e => kp b ys _ e) hns ?_ λy hy => ?_) λb ys e => s13 _ _ e) kp2
      ·rw [Zev hrj, if_pos rfl]
       refine RatV.keep ?_ λb ys e => kp b ys _ e
       rw [show Zj a fr pay (Zm ts7 (cs fr[i]) (Zj a fr pay))[j].1 - (JG ((Zm ts7 (cs fr[i]) (Zj a fr pay)).take j) (Zm ts7 (cs fr[i]) (Zj a fr pay))[j].1 + (Zm ts7 (cs fr[i]) (Zj a fr pay))[j].2) = Zj a fr pay (Zm ts7 (cs fr[i]) (Zj a fr pay))[j].1 - JG ((Zm ts7 (cs fr[i]) (Zj a fr pay)).take j) (Zm ts7 (cs fr[i]) (Zj a fr pay))[j].1 - (Zm ts7 (cs fr[i]) (Zj a fr pay))[j].2 by omega]
       exact v12
      ·rw [Zev hrj, if_neg hy, Int.add_zero]
    ·obtain ⟨q3, q8, lv2, tv2, rfl, s11, ef11, el11, et11, htab11, er11, hR11, hS11⟩ := hP
     rw [hxl10, YE] at hS11 htab11
     obtain ⟨pay', hP', hpe'⟩ := ZlM J.nd hfn hri J.c0 hP6 hpm7 hL6 (by have := c0; unfold Zj at this; omega)
     have hrD : fr[i] ∉ fr.take i := λc => by
      have h1 : (fr.take (i + 1)).Nodup := hfn.sublist (Vw _ _)
      rw [Yw, hri] at h1
      exact (List.nodup_append.mp h1).2.2 _ c _ (by simp) rfl
     have hTI' : TabI (fr.take (i + 1)) (ps ++ (Zm ts7 (cs fr[i]) (Zj a fr pay)).map λp => (fr[i], p.1, p.2)) := by rw [Yw, hri]; exact Zlp hrD (Zd5 htn) hTI6
     have hcn := ZlX (l := Zj a fr pay) J.nd htn hts (J.c0 fr[i]) hlt7
     refine ⟨_, _, _, _, lv2, tv2, pay', _, rfl, s11, ef11, el11, et11, htab11, ?_, hTI', ?_, hP', λz hz => ?_⟩
     ·have e : Zj a fr pay' = λz => Zj a fr pay z - JG (Zm ts7 (cs fr[i]) (Zj a fr pay)) z := funext λz => hpe' z
      rw [e, YS, Yg]
      omega
     ·have e : (λz => Zs B (Zj a fr pay' z)) = λz => Zs B (Zj a fr pay z - JG (Zm ts7 (cs fr[i]) (Zj a fr pay)) z) := funext λz => by
       show Zs B (a z - sm fr (λk => pay' k z)) = _
       rw [hpe' z]
       rfl
      rw [e]
      exact hS11
     ·show 0 <= a z - sm fr (λk => pay' k z)
      rw [hpe' z]
      have := hamt z hz
      show 0 <= Zj a fr pay z - JG (Zm ts7 (cs fr[i]) (Zj a fr pay)) z
      omega
  ·obtain ⟨o3, o6, o7, o8, lvs, tvs, pay, ps, rfl, s6, ef6, el6, et6, htab6, hcnt6, hTI6, hS6, hP6, hL6⟩ := hP
   have hnl : (ZN fr).length = fr.length := by simp [ZN]
   rw [hnl, YE] at hP6
   have hcz : Zqu (Zj a fr pay) ss <= ss.length := YK _ _
   have htl : tvs.length = ps.length := htab6.1
   have zf1 : ((tvs.zip ps).map λx => ((x.1, (x.2.1 : Int), x.2.2.1) : V × Int × Str)).map (·.1) = tvs := (Zg4 (λp : Nat × Str × Int => ((p.1 : Int), p.2.1)) htl).1
   have zf2 : ((tvs.zip ps).map λx => ((x.1, (x.2.1 : Int), x.2.2.1) : V × Int × Str)).map (·.2) = ps.map λp => ((p.1 : Int), p.2.1) := (Zg4 (λp : Nat × Str × Int => ((p.1 : Int), p.2.1)) htl).2
   walk_at "rd"
   refine ⟨tb, (tvs.zip ps).map λx => (x.1, (x.2.1 : Int), x.2.2.1), rfl, by rw [zf1]; exact et6, by rw [Yg, Vi]; omega, Zk5 htab6, ?_, λl H7 qs hl s7 e7 hqp hqw r H8 hr s8 e8 => ?_⟩
   ·rw [zf2]
    refine Vx.mpr ((Vx.mp hTI6.one).imp λh e => h ?_)
    have e1 := congrArg Prod.fst e
    have e2 := congrArg Prod.snd e
    dsimp only at e1 e2
    exact Prod.ext (by show _ = _; dsimp only; omega) e2
   exact q2 r H8 l _ (s6.free hl) (s6.trans (s7.trans s8)) e8 (s8 _ _ e7)
end
def Ze8 : Sp := λvs H Q _ => ∃ (p d : Addr) (c : Int) (xs : List V) (rs : List (Nat × Rat)) (o : Obj) (kvs : List (ZC × V)) (ss : List Str) (hf : Str -> Nat), vs = [.ref p, .ref d, .int c] /\ H p = some (.lst xs) /\ RoadsV H xs rs /\ H d = some (.frz o (.dK kvs)) /\ kvs.map (·.1) = ss.map Sum.inr /\ ss.Nodup /\ ss.length <= 12 /\ (∀ gs : List Str, (∀ z ∈ gs, z ∈ ss) -> Zbj kvs gs (gs.map hf) rs.length) /\ rs.length <= 20 /\ ZbJ rs /\ (∀ r ∈ rs, SzQ 110 r.2 /\ 0 <= r.2.num) /\
 ∀ b H' svs qf B, H b = none -> Same H H' -> H' b = some (.dK svs) -> ShV H' svs ss qf -> 0 < B -> B <= 2 ^ 2400 -> (∀ z ∈ ss, (qf z).den ∣ B /\ 0 <= qf z) -> (∀ r ∈ rs, r.2.den ∣ B) -> (∀ ks : List Nat, ks.Nodup -> (∀ k, k ∈ ks ↔ Jl rs (ss.map hf) k) -> ZX (ss.map qf) = ZX (ks.map (Zl rs))) -> (∀ G : List Str, G.Nodup -> (∀ z ∈ G, z ∈ ss) -> ∀ ks : List Nat, ks.Nodup -> (∀ k, k ∈ ks ↔ Jl rs (G.map hf) k) -> ZX (G.map qf) <= ZX (ks.map (Zl rs))) -> Q (.ref b) H'
def Zeb {ss : List Str} {qf : Str -> Rat} (hn : ss.Nodup) {z : Str} (hz : z ∈ ss) (q : Rat) : ZX (ss.map λy => if y = z then qf y + q else qf y) = ZX (ss.map qf) + q := by
 induction ss with
 | nil => cases hz
 | cons y ss ih =>
  rw [Y6] at hn
  rw [Yr, Yr, ZL, ZL]
  by_cases c : y = z
  ·subst c
   rw [if_pos rfl, show (ss.map λx => if x = y then qf x + q else qf x) = ss.map qf from YO λx hx => if_neg (λe : x = y => hn.1 (by rw [<- e]; exact hx)), Vj, Vj, Rat.add_comm q]
  ·rw [if_neg c, ih hn.2 (by rcases Ym.mp hz with h | h; exact absurd h.symm c; exact h), Vj]
def Zdg {ss : List Str} : ZX (ss.map λ_ => (0 : Rat)) = 0 := by
 induction ss with
 | nil => rfl
 | cons y ss ih => rw [Yr, ZL, ih, Yaf]
theorem Znj {p q : Rat} {B : Nat} (hB : 0 < B) (h1 : p.den ∣ B) (h2 : q.den ∣ B) : (p + q).den ∣ B := by
 rw [<- Zdw hB h1, <- Zdw hB h2]
 have := ZeC hB (JE B p + JE B q)
 rw [<- ZbB hB] at this
 exact this
def ZoI {t : Int} {b : Nat} (hb : 0 < b) : (Rat.divInt t (b : Int)).den ∣ b := ZeC hb t
theorem ZgE (ms : List Int) (i : Nat) (m : Int) (h : ms[i]? = some m) : (ms.take (i + 1)).sum = (ms.take i).sum + m := by rw [List.take_add_one, h, List.sum_append]; simp
def ZjA {a : Addr} {o : Obj} {kvs : List (ZC × V)} {ss : List Str} {cp : St} {tt : TT} {H1 : Hp} {Q : VK} (r : Str -> Bool) (ha : H1 a = some (.frz o (.dK kvs))) (he : (kvs.map λkv => kV kv.1) = ss.map V.str) (hl : ss.length < 1000) (ht : ∀ z ∈ ss, ∀ H' (k : Bool -> Hp -> Prop), Same H1 H' -> (∀ H'', Same H' H'' -> k (r z) H'') -> tt (some (V.str z) :: cp) H' k)
  (q : ∀ p H', H1 p = none -> Same H1 H' -> H' p = some (.lst ((ss.filter r).map V.str)) -> Q (.ref p) H') : ZfC 1 cp (Itd a o kvs) (Jy 0) tt (Zoa 0) H1 Q := by
 have hlen : kvs.length = ss.length := by have := congrArg List.length he; simpa using this
 refine Zg0 (λacc i ys H' => Same H1 H' /\ H' acc = some (.lst ys) /\ ys = ((ss.take i).filter r).map V.str /\ i <= ss.length)
  (λacc H2 hn sm e => ⟨sm, e, by simp, Nat.zero_le _⟩) (λacc i ys H2 ⟨sm, e, e2, hi⟩ => ⟨e, ?_, sm _ _ ha⟩) (λacc i kv ys H2 os hn hi hP ol => ?_) (λacc ys H2 hn hP => ?_)
 ·rw [e2, Yg]
  exact Yz (YK _ _) (by rw [Y4]; omega)
 ·obtain ⟨sm, e, e2, _⟩ := hP
  obtain ⟨o', rfl⟩ : ∃ o', os = [o'] := by match os, ol with | [o'], _ => exact ⟨o', rfl⟩
  obtain ⟨z, hz, ek⟩ : ∃ z, ss[i]? = some z /\ kV kv.1 = V.str z := by
   have h1 := congrArg (·[i]?) he
   simp only [List.getElem?_map, hi, Option.map_some] at h1
   cases h : ss[i]? with
   | none => rw [h] at h1; cases h1
   | some z => rw [h] at h1; exact ⟨z, rfl, by simpa using h1⟩
  rw [ek]
  have hil := (Yj.mp hz).1
  refine ⟨[some (V.str z)], rfl, rfl, ht z (Yq hz) H2 _ sm λH3 s3 => ?_⟩
  have tk : (ss.take (i + 1)).filter r = (ss.take i).filter r ++ (if r z = true then [z] else []) := by
   rw [Yw, hz, VI]
   congr 1
   show [z].filter r = _
   by_cases c : r z = true
   ·rw [Yam c, if_pos c]; rfl
   ·rw [Yan c, if_neg c]; rfl
  refine JQ (λc => ⟨V.str z, rfl, s3 _ _ e, Zr hn (sm.trans s3), upd_same, ?_, hil⟩) (λc => ⟨sm.trans s3, s3 _ _ e, ?_, hil⟩)
  ·rw [tk, if_pos c, e2, YW]; rfl
  ·rw [tk, if_neg c, Y7, e2]
 ·obtain ⟨sm, e, e2, _⟩ := hP
  rw [hlen, YE] at e2
  subst e2
  exact q acc H2 hn sm e
def ZnR (us : List Str) : (us.map λ_ => (1 : Int)).sum = us.length := by
 induction us with
 | nil => rfl
 | cons x us ih => rw [Yr, VV, ih, YQ]; omega
def Psh (H0 : Hp) (p d b nb : Addr) (c : Int) (rs : List (Nat × Rat)) (ss : List Str) (hf : Str -> Nat) (i : Nat) (Z : St) (H : Hp) : Prop := ∃ (o4 o6 o7 o8 o9 o10 : Option V) (svs : List (ZC × V)) (qf : Str -> Rat) (B : Nat) (ns : List Int), Z = [some (.ref p), some (.ref d), some (.int c), some (.ref b), o4, some (.ref nb), o6, o7, o8, o9, o10] /\ Same H0 H /\ H b = some (.dK svs) /\ H nb = some (.lst (ns.map V.int)) /\ (rs.length - i) * ss.length <= ns.length /\ (∀ n ∈ ns, 0 <= n /\ n < 7) /\
 ShV H svs ss qf /\ 0 < B /\ B <= 2 ^ (117 * i) /\ (∀ z ∈ ss, (qf z).den ∣ B /\ 0 <= qf z /\ SzQ (119 * i + 1) (qf z)) /\ (∀ (j : Nat) r, j < i -> rs[j]? = some r -> r.2.den ∣ B) /\ (∀ ks : List Nat, ks.Nodup -> (∀ k, k ∈ ks ↔ (k <= i /\ Jl rs (ss.map hf) k)) -> ZX (ss.map qf) = ZX (ks.map (Zl rs))) /\ (∀ G : List Str, G.Nodup -> (∀ z ∈ G, z ∈ ss) -> ∀ ks : List Nat, ks.Nodup -> (∀ k, k ∈ ks ↔ (k <= i /\ Jl rs (G.map hf) k)) -> ZX (G.map qf) <= ZX (ks.map (Zl rs)))
def Psz (H0 : Hp) (p d b nb np pp : Addr) (c : Int) (v6 : V) (ss ns : List Str) (ps : List Int) (nums : List Int) (i Tn : Nat) (pr : Rat) (qf : Str -> Rat) (B : Nat) (j : Nat) (Z : St) (H : Hp) : Prop := ∃ (o4 o9 o10 : Option V) (svs : List (ZC × V)) (qg : Str -> Rat), Z = [some (.ref p), some (.ref d), some (.int c), some (.ref b), o4, some (.ref nb), some v6, some (.ref np), some (.ref pp), o9, o10] /\ Same H0 H /\ H b = some (.dK svs) /\ H nb = some (.lst (nums.map V.int)) /\ H np = some (.lst (ns.map V.str)) /\ H pp = some (.lst (ps.map V.int)) /\
 ShV H svs ss qg /\ (∀ z ∈ ss, (qg z).den ∣ B /\ 0 <= qg z /\ SzQ (119 * (i + 1) + 1) (qg z) /\ (z ∉ ns.take j -> SzQ (119 * i + 1) (qg z))) /\ ZX (ss.map qg) = ZX (ss.map qf) + Rat.divInt (pr.num * (ps.take j).sum) ((pr.den : Int) * (Tn : Int)) /\ (∀ z, z ∉ ns.take j -> qg z = qf z) /\ ∀ G : List Str, G.Nodup -> ZX (G.map qg) <= ZX (G.map qf) + Rat.divInt (pr.num * (ps.take j).sum) ((pr.den : Int) * (Tn : Int))
section
variable {P : Program} {w : World} {K : PySem.W.Frag} {mg : Str -> Option Value} {base : Heap} {f : Addr} {fd : FuncData}
def ZiF (F : Fun K "_law_shared_by" "_law_shared_by" ZaI f fd) (ZA : mg "len" = none) (ZK : mg "range" = none) (Zn2 : mg "max" = none) (ZfR : mg "sum" = none) (ZhF : mg "zip" = none) (ZE : Fn P w K mg base Zx 2 "_law_numbers" ["_law_cell", "_law_many", "_law_most"] Zat) (Zdd : Fn P w K mg base Zx 1 "_law_way" ["_law_roads", "_law_k"] Zm2)
  (ZaG : Fn P w K mg base Zx 2 "_law_add" ["_law_one", "_law_other"] Zf0) (ZW : Fn P w K mg base Zx 1 "_law_low" ["_law_top", "_law_bottom"] ZbU) : FnOk P w K mg base Zx 3 f fd ["_law_roads", "_law_homes", "_law_cell"] Ze8 := by
 refine JN F sc_law_shared_by (λvs H Q E h => ?_) (λcdv A outer s H vs Q E hr h => ?_)
 ·obtain ⟨p, d, c, xs, rs, o, kvs, ss, hf, rfl, _⟩ := h; rfl
 obtain ⟨p, d, c, xs, rs, o, kvs, ss, hf, rfl, hp, hR, hd, hks, hnd, hl12, hH, hrl, hO, hz, q⟩ := h
 have hkl : kvs.length = ss.length := by have := congrArg List.length hks; simpa using this
 have hkv : (kvs.map λkv => kV kv.1) = ss.map V.str := by
  have := congrArg (List.map kV) hks
  rw [Yv, Yv] at this
  exact this
 have hway : ∀ z ∈ ss, WayR rs (hf z) (wayL rs (hf z)) /\ (wayL rs (hf z)).length <= rs.length /\ Jw kvs (Sum.inr z) = some (.int (hf z : Int)) := λz hz => by
  have h := (hH [z] (λy hy => by rw [YB.mp hy]; exact hz)).2 0 z (hf z) rfl rfl
  obtain ⟨w, hw, hwl⟩ := Zb4 hO h.2
  rw [Za5 hw]
  exact ⟨hw, hwl, h.1⟩
 refine ⟨_, (Zd (Zo 3 sc_law_shared_by.nd ZmO)
   (Zd (Jr YC (ZgP (Zf 1)) (Zw 4 sc_law_shared_by.nd) (Zh (Zcv (Jm hr) (Zf 3) (Zf 4) (Js (Zg Zc (Zg Zc Za))))))
   (Zd (Zo 5 sc_law_shared_by.nd (ZB ZE hr (by decide) rfl (Zg (Zf 2) (Zg (Jj (Jt rfl ZA (Zg (Zf 0) Za)) (ZoZ rfl ZA (Zg (Zf 1) Za))) (Zg Zc Za)))))
   (Zd (Jr YC (Zpx rfl ZK (Zg Zc (Zg (Jg (Jt rfl ZA (Zg (Zf 0) Za)) Zc) Za))) (Zw 6 sc_law_shared_by.nd) (Zd (Zh4 7 (ZlK ["_law_name"] [0, 1, 6] ["_law_roads", "_law_homes", "_law_k"]) (ZgP (Zf 1)) (by exact λs H fp => (Zw 0 (show List.Nodup (["_law_name", "_law_roads", "_law_homes", "_law_k"] : List Str) from by decide +kernel))) (by exact λs H fp => ZgF (Ziu K (Zf 3) (ZB Zdd hr (by decide) rfl (Zg (Zf 1) (Zg (JC (Jm hr) (Zf 2) (Zf 0)) Za))))) (by exact λs H fp => (Zf 0)) (Zw 7 sc_law_shared_by.nd))
   (Zd (Zdq 8 (ZlK ["_law_name"] [5] ["_law_numbers_here"]) (Ju (Zf 7)) (by exact λs H fp => (Zw 0 (show List.Nodup (["_law_name", "_law_numbers_here"] : List Str) from by decide +kernel))) (by exact λs H fp => (Zrz rfl Zn2 (Zg Zc (Zg (JT (Zo5 (Zf 1)) Zc) Za)))) (Zw 8 sc_law_shared_by.nd))
   (Zd (Jo (ZkD (Zjj rfl ZfR (Zg (Zf 8) Za)) Zc) (Zh (Zdq 8 (ZrQ ["_law_name"]) (Ju (Zf 7)) (by exact λs H fp => (Zw 0 (show List.Nodup (["_law_name"] : List Str) from by decide +kernel))) (by exact λs H fp => Zc) (Zw 8 sc_law_shared_by.nd))) Je)
   (Zh (Jr YC (Zpl rfl ZhF (Zg (Zf 7) (Zg (Zf 8) Za))) (Zhz (n := 2) (Jh (Zw 4 sc_law_shared_by.nd) (Jh (Zw 9 sc_law_shared_by.nd) Zd6))) (Zd (Zo 10 sc_law_shared_by.nd (ZI (Jz (Zf 0) (JT (Zf 6) Zc)) Zc))
   (Zh (Zcv (Jm hr) (Zf 3) (Zf 4) (ZB ZaG hr (by decide) rfl (Zg (JC (Jm hr) (Zf 3) (Zf 4)) (Zg (ZB ZW hr (by decide) rfl (Zg (Jj (ZI (Zf 10) Zc) (Zf 9)) (Zg (Jj (ZI (Zf 10) Zc) (Zjj rfl ZfR (Zg (Zf 8) Za))) Za))) Za))))))))))))
   (Zh (Zy (Zf 3))))))), ?_⟩
 rw [show Zu ["_law_roads", "_law_homes", "_law_cell", "_law_sharing", "_law_name", "_law_numbers_here", "_law_k", "_law_names", "_law_parts", "_law_part", "_law_price"] [.ref p, .ref d, .int c] = [some (.ref p), some (.ref d), some (.int c), none, none, none, none, none, none, none, none] from rfl]
 walk_at "rd"
 intro b H1 hb s1 e1
 simp only [Zi6]
 walk_at "rd"
 refine ZlC (o := o) (kvs := kvs) (λi Z H' => ∃ (o4 : Option V) (svs : List (ZC × V)), Z = [some (V.ref p), some (V.ref d), some (V.int c), some (V.ref b), o4, none, none, none, none, none, none] /\ Same H H' /\ H' b = some (.dK svs) /\ ShV H' svs (ss.take i) (λ_ => 0)) ⟨_, [], rfl, s1, e1, by simp, λi z h => by simp at h⟩ (λi Z H' _ ⟨_, _, _, sm', _⟩ => sm' _ _ hd) (λi kv Z H' hi hP => ?_) (λZ H' hP => ?_)
 ·obtain ⟨o4, svs, rfl, sm', eb, hS⟩ := hP
  have hil : i < ss.length := by rw [<- hkl]; exact (Yj.mp hi).1
  have hz0 := Yc hil
  have hkk : kv.1 = Sum.inr ss[i] := by
   have := congrArg (·[i]?) hks
   simp only [List.getElem?_map, hi, hz0, Option.map_some, Option.some.injEq] at this
   exact this
  rw [hkk]
  walk_at "rd"
  intro t H2 ht s2 e2
  have eb2 := s2 _ _ eb
  have kp : ∀ b' ys, H2 b' = some (.tup ys) -> upd H2 b (.dK (Jf svs (Sum.inr ss[i]) (.ref t))) b' = some (.tup ys) := λb' ys e => by rw [Ze (Jc e eb2 (by intro z; cases z))]; exact e
  refine ⟨svs, eb2, .inr ss[i], rfl, by rw [hS.1, Y4]; omega, Zr hb (sm'.trans s2), _, upd_same, ?_⟩
  rw [Yw, hz0]
  refine ShV.snoc ((hS.keep λb ys e => s2 _ _ e).keep kp) (λhm => ?_) ⟨t, rfl, kp _ _ e2⟩
  have h1 : (ss.take (i + 1)).Nodup := hnd.sublist (Vw _ _)
  rw [Yw, hz0] at h1
  exact (List.nodup_append.mp h1).2.2 _ hm _ (by simp) rfl
 ·obtain ⟨o4, svs, rfl, sm', eb, hS⟩ := hP
  rw [hkl, YE] at hS
  dsimp only
  walk_at "rd"
  have hxl := hR.1
  have hlen : xs.length * kvs.length <= 240 := by
   rw [hxl, hkl]
   exact Yh (VR hrl hl12) (by decide)
  have e240 : ((xs.length : Int) * (kvs.length : Int)) = ((xs.length * kvs.length : Nat) : Int) := by simp
  refine ⟨xs, .inl (sm' _ _ hp), kvs, .inr ⟨o, sm' _ _ hd⟩, JI (a := 5) (b := 4) (by rw [VJ]; omega) (by rw [VJ]; omega) (by decide), _, _, _, rfl, by rw [e240]; omega, by rw [e240]; omega, by decide, by decide, λnb H3 nums hnb s3 e3 hnl hnb7 => ?_⟩
  rw [e240] at hnl
  have hbn : b ≠ nb := Zp eb hnb
  have s03 := sm'.trans s3
  have hnb0 : H nb = none := sm'.free hnb
  rw [Zjt]
  walk_at "rd"
  refine ⟨xs, .inl (s03 _ _ hp), by omega, by omega, ?_⟩
  refine ZcV (Psh H p d b nb c rs ss hf) ⟨_, _, _, _, _, _, svs, λ_ => 0, 1, nums, rfl, s03, s3 _ _ eb, e3, ?_, hnb7, hS.keep (λb ys e => s3 _ _ e), Nat.one_pos, by simp, λz _ => ⟨Nat.one_dvd _, Rat.le_refl, Zee (by decide)⟩, λj r h => absurd h (Nat.not_lt_zero j), λks _ hk => ?_, λG _ _ ks _ hk => ?_⟩ (λi Z H4 hi hP => ?_) (λZ H4 hP => ?_)
  ·rw [Nat.sub_zero, <- hxl, <- hkl]; omega
  ·have : ks = [] := by
    cases ks with
    | nil => rfl
    | cons k ks => have := (hk k).mp (.head _); have := (Z0 this.2).1; omega
   subst this
   rw [Zdg]
   rfl
  ·rw [Zdg]
   have : ks = [] := by
    cases ks with
    | nil => rfl
    | cons k ks => have := (hk k).mp (.head _); have := (Z0 this.2).1; omega
   subst this
   exact Rat.le_refl
  ·obtain ⟨o4, o6, o7, o8, o9, o10, svs, qf, B, ns, rfl, s4, eb4, en4, hnl4, hn7, hS4, hB0, hB1, hq4, hd4, ht4, hg4⟩ := hP
   have hir : i < rs.length := by omega
   have hri := Yc hir
   have hix : i < xs.length := by omega
   refine ZV λR0 hR0 => ?_
   walk_at "rd"
   simp only [ZcD, Zhi, cxK]
   walk_at "rd"
   refine ⟨o, kvs, s4 _ _ hd, ?_⟩
   rw [show Jn [some (V.ref p), some (V.ref d), some (V.int c), some (V.ref b), o4, some (V.ref nb), some (V.int (1 + (i : Int))), o7, o8, o9, o10] [0, 1, 6] = [some (V.ref p), some (V.ref d), some (V.int (1 + (i : Int)))] from rfl]
   refine ZjA (λz => decide (i + 1 ∈ wayL rs (hf z))) (s4 _ _ hd) hkv (by omega) (λz hz' H' k sm'' hk => ?_) (λnp H5 hnp s5 e5 => ?_)
   ·obtain ⟨hw1, hw2, hw3⟩ := hway z hz'
    have s0 := s4.trans sm''
    walk_at "rd"
    refine ⟨kvs, .inr ⟨o, s0 _ _ hd⟩, .inr z, rfl, _, hw3, p, xs, rs, hf z, wayL rs (hf z), rfl, s0 _ _ hp, hR.same s0, hw1, by omega, λpw H6 hpw s6 e6 => ?_⟩
    simp only [rIn]
    walk_at "rd"
    refine ⟨_, .inl (.of e6), rfl, ZeT, ?_⟩
    have ei : (1 + (i : Int)) = ((i + 1 : Nat) : Int) := by omega
    rw [ei, ZfV]
    exact hk H6 s6
   have s05 := s4.trans s5
   have eb5 := s5 _ _ eb4
   have en5 := s5 _ _ en4
   have hS5 := hS4.keep λb ys e => s5 _ _ e
   have hnpn : np ≠ nb := λz => by rw [z, en4] at hnp; cases hnp
   have hnpb : np ≠ b := λz => by rw [z, eb4] at hnp; cases hnp
   have hul : (ss.filter λz => decide (i + 1 ∈ wayL rs (hf z))).length <= ss.length := YK _ _
   have hus : ∀ z ∈ ss.filter (λz => decide (i + 1 ∈ wayL rs (hf z))), z ∈ ss := λz hz => (Yt.mp hz).1
   have hus2 : ∀ z ∈ ss.filter (λz => decide (i + 1 ∈ wayL rs (hf z))), i + 1 ∈ wayL rs (hf z) := λz hz => by simpa using (List.mem_filter.mp hz).2
   have hum : ∀ z ∈ ss, i + 1 ∈ wayL rs (hf z) -> z ∈ ss.filter (λz => decide (i + 1 ∈ wayL rs (hf z))) := λz hz h => List.mem_filter.mpr ⟨hz, by simpa using h⟩
   have hun : (ss.filter λz => decide (i + 1 ∈ wayL rs (hf z))).Nodup := hnd.filter _
   generalize ss.filter (λz => decide (i + 1 ∈ wayL rs (hf z))) = us at e5 hul hus hus2 hum hun
   subst hR0
   try dsimp only
   refine ZV λR0 hR0 => ?_
   walk_at "rd"
   simp only [JS, Zef, cxK]
   walk_at "rd"
   refine ⟨⟨_, .of e5⟩, ?_⟩
   rw [show Jn [some (V.ref p), some (V.ref d), some (V.int c), some (V.ref b), o4, some (V.ref nb), some (V.int (1 + (i : Int))), some (V.ref np), o8, o9, o10] [5] = [some (V.ref nb)] from rfl]
   unfold Zod
   refine ZcN (xs := us.map V.str) (λacc j ys H' => (∀ b' o', b' ≠ nb -> H5 b' = some o' -> H' b' = some o') /\ acc ≠ nb /\ H' acc = some (.lst ys) /\ j <= us.length /\ (∃ ns' : List Int, H' nb = some (.lst (ns'.map V.int)) /\ ns'.length + j = ns.length /\ ∀ n ∈ ns', 0 <= n /\ n < 7) /\ ∃ ps : List Int, ys = ps.map V.int /\ ps.length = j /\ ∀ m ∈ ps, 0 <= m /\ m <= 4)
    (λacc H2 hn sm e => ⟨λb' o' _ e' => sm _ _ e', (Zp en5 hn).symm, e, YA _, ⟨ns, sm _ _ en5, rfl, hn7⟩, [], rfl, rfl, (λm hm => by cases hm)⟩) (λacc j ys H2 hn hP => ?_) (λacc j y ys H2 os hn hj hP ol => ?_) (λacc ys H2 hn hP => ?_)
   ·obtain ⟨h1, h2, h3, h4, _, ps, rfl, h5, _⟩ := hP
    exact ⟨h3, by rw [Yg]; omega, .of (h1 _ _ hnpn e5)⟩
   ·obtain ⟨h1, h2, h3, h4, ⟨ns', h6, h7, h8⟩, ps, rfl, h5, h9⟩ := hP
    obtain ⟨o', rfl⟩ : ∃ o', os = [o'] := by match os, ol with | [o'], _ => exact ⟨o', rfl⟩
    have hju : j < us.length := by have := (List.getElem?_eq_some_iff.mp hj).1; simpa using this
    walk_at "rd"
    refine ⟨[some y], rfl, rfl, ?_⟩
    simp only [Zmw]
    walk_at "rd"
    have hn0 : 0 < ns'.length := by
     have : ss.length <= (rs.length - i) * ss.length := Nat.le_mul_of_pos_left _ (by omega)
     omega
    have hlast : (ns'.map V.int)[(ns'.map V.int).length - 1]? = some (.int ns'[ns'.length - 1]) := by
     rw [Yg, Yi, Yc (by omega)]
     rfl
    have hlb := h8 _ (YI (show ns'.length - 1 < ns'.length by omega))
    refine ⟨_, h6, _, hlast, _, rfl, by rw [Ze h2]; exact h3, λb' o' hb' e' => ?_, h2, upd_same, hju, ⟨ns'.dropLast, by rw [Ze h2.symm, upd_same, List.map_dropLast], by rw [List.length_dropLast]; omega, λn hn => h8 n (List.dropLast_subset _ hn)⟩, ps ++ [if 0 < ns'[ns'.length - 1] - 2 then ns'[ns'.length - 1] - 2 else 0], by simp, by simp [h5], λm hm => ?_⟩
    ·have hba : b' ≠ acc := λz => by rw [z, hn] at e'; cases e'
     rw [Ze hba, Ze hb']
     exact h1 b' o' hb' e'
    ·rcases Yu.mp hm with hm | hm
     ·exact h9 m hm
     ·rw [YB.mp hm]
      split <;> omega
   obtain ⟨h1, h2, h3, _, ⟨ns', h6, h7, h8⟩, ps, rfl, h5, h9⟩ := hP
   rw [Yg] at h5 h7
   have hpr := (hz _ (Yq hri))
   have hneed : Jl rs (ss.map hf) (i + 1) ↔ us ≠ [] := by
    rw [ZaP λz hz => (hway z hz).1]
    constructor
    ·rintro ⟨z, hz', hk⟩ hu
     have := hum z hz' hk
     rw [hu] at this
     cases this
    ·intro hu
     obtain ⟨z, hz'⟩ := List.exists_mem_of_ne_nil us hu
     exact ⟨z, hus z hz', hus2 z hz'⟩
   have hlv : ∀ ps : List Int, (∀ m ∈ ps, 0 <= m /\ m <= 4) -> 0 <= ps.sum /\ ps.sum <= 4 * ps.length := λps h => by
    induction ps with
    | nil => simp
    | cons m ps ih => rw [VV, YQ]; have := h m (.head _); have := ih λx hx => h x (.tail _ hx); omega
   have hbacc : acc ≠ b := λz => by rw [z, eb5] at hn; cases hn
   have hnpacc : acc ≠ np := (Zp e5 hn).symm
   subst hR0
   try dsimp only
   refine ZV λR1 hR1 => ?_
   suffices fin : ∀ (pp : Addr) (ps : List Int) (H8 : Hp), (∀ b' o', b' ≠ nb -> H5 b' = some o' -> H8 b' = some o') -> H8 nb = some (.lst (ns'.map V.int)) -> H8 pp = some (.lst (ps.map V.int)) -> pp ≠ b -> pp ≠ nb -> ps.length = us.length -> (∀ m ∈ ps, 0 <= m /\ m <= 4) -> (us ≠ [] -> 0 < ps.sum) ->
     R1 [some (V.ref p), some (V.ref d), some (V.int c), some (V.ref b), o4, some (V.ref nb), some (V.int (1 + (i : Int))), some (V.ref np), some (V.ref pp), o9, o10] H8 by
    refine JH λA0 hA0 C0 hC0 => ?_
    walk_at "rd"
    refine ⟨ps, h3, ?_⟩
    by_cases c0 : ps.sum = 0
    ·rw [if_pos c0]
     subst hA0
     walk_at "rd"
     simp only [JS, Zef, cxK]
     walk_at "rd"
     refine ⟨⟨_, .of (h1 _ _ hnpn e5)⟩, ?_⟩
     refine Zig Zrl ZiN (xs := us.map V.str) (as := us.map λ_ => (1 : Int)) (h1 _ _ hnpn e5) (by simp) (by rw [List.length_map]; omega) (λi' y t' hi' ht' H' kk os sm'' ol hkk => ?_) (λpq H8 zs hpq s8 e8 hY => ?_)
     ·obtain ⟨o', rfl⟩ : ∃ o', os = [o'] := by match os, ol with | [o'], _ => exact ⟨o', rfl⟩
      rw [Yi] at ht'
      obtain ⟨_, _, rfl⟩ := YG.mp ht'
      walk_at "rd"
      refine ⟨[some y], rfl, rfl, ?_⟩
      walk_at "rd"
      exact hkk _ _ (λ_ _ w => w) rfl
     ·rw [Zma hY] at e8
      refine fin pq _ H8 (λb' o' hb' e' => s8 _ _ (h1 b' o' hb' e')) (s8 _ _ h6) e8 (λz => by rw [z, h1 _ _ hbn eb5] at hpq; cases hpq) (λz => by rw [z, h6] at hpq; cases hpq) (by simp) (λm hm => ?_) λhu => ?_
      ·obtain ⟨_, _, rfl⟩ := Yk.mp hm
       omega
      ·rw [ZnR]
       have := List.length_pos_iff.mpr hu
       omega
    ·rw [if_neg c0]
     subst hC0
     walk_at "rd"
     exact fin acc ps H2 h1 h6 h3 hbacc h2 h5 h9 λ_ => by have := hlv ps h9; omega
   intro pp ps H8 k8 en8 ep8 hppb hppn hpl hp4 hT
   have eb8 := k8 _ _ hbn eb5
   have e8n := k8 _ _ hnpn e5
   have s08 : Same H H8 := λb' o' e' => k8 b' o' (Zp e' hnb0) (s05 _ _ e')
   have hsum := hlv ps hp4
   obtain ⟨Tn, hTn0, hTn1, hTn2⟩ : ∃ Tn : Nat, 0 < Tn /\ Tn < 64 /\ (us ≠ [] -> (Tn : Int) = ps.sum) := by
    by_cases hu : us = []
    ·exact ⟨1, by decide, by decide, λh => absurd hu h⟩
    ·have := hT hu
     exact ⟨ps.sum.toNat, by omega, by omega, λ_ => by omega⟩
   have hden := rs[i].2.den_pos
   have hpsz := hpr.1
   have hB'0 : 0 < B * (rs[i].2.den * Tn) := VZ hB0 (VZ hden hTn0)
   have hdv : B ∣ B * (rs[i].2.den * Tn) := Yau _ _
   have kp8 : ∀ b' ys, H5 b' = some (.tup ys) -> H8 b' = some (.tup ys) := λb' ys e => k8 _ _ (Jc e en5 (by intro z; cases z)) e
   subst hR1
   try dsimp only
   rw [ZgX]
   walk_at "rd"
   refine Zjx (xs := us.map V.str) (ys := ps.map V.int) (by simp [hpl]) (Psz H p d b nb np pp c (.int (1 + (i : Int))) ss us ps ns' i Tn rs[i].2 qf (B * (rs[i].2.den * Tn))) ⟨_, _, _, svs, qf, rfl, s08, eb8, en8, e8n, ep8, hS5.keep kp8, λz hz' => ⟨Nat.dvd_trans (hq4 z hz').1 hdv, (hq4 z hz').2.1, (hq4 z hz').2.2.mono (by omega), λ_ => (hq4 z hz').2.2⟩, by rw [List.take_zero, List.sum_nil, Int.mul_zero, Rat.zero_divInt, Rat.add_zero], λ_ _ => rfl, λG _ => by rw [List.take_zero, List.sum_nil, Int.mul_zero, Rat.zero_divInt, Rat.add_zero]; exact Rat.le_refl⟩
    (λj Z H' _ ⟨_, _, _, _, _, _, _, _, _, g1, g2, _⟩ => ⟨.of g1, .of g2⟩) (λj x y Z H9 pt H10 hx hy hP hpt s10 e10 => ?_) (λZ H9 hP => ?_)
   ·obtain ⟨q4, q9, q10, sv9, qg, rfl, s9, eb9, en9, enp9, epp9, hS9, hq9, ht9, hi9, hg9⟩ := hP
    rw [Yi] at hx hy
    obtain ⟨z, hzj, rfl⟩ := YG.mp hx
    obtain ⟨m, hmj, rfl⟩ := YG.mp hy
    have hjl := (Yj.mp hzj).1
    have hune : us ≠ [] := λe => by rw [e] at hjl; simp at hjl
    have hTs := hTn2 hune
    have hzs := hus z (Yq hzj)
    have hm4 := hp4 m (Yq hmj)
    have s010 := s9.trans s10
    obtain ⟨pr, yr, exr, hprt, hyr⟩ := (hR.same s010).2 i _ _ (Yc hix) hri
    obtain ⟨py, rfl, hpy⟩ := id hyr
    obtain ⟨v, ev, rv⟩ := (hS9.keep λb ys e => s10 _ _ e).val hnd z hzs
    have hznt : z ∉ us.take j := λhm => by
     have h1 : (us.take (j + 1)).Nodup := hun.sublist (Vw _ _)
     rw [Yw, hzj] at h1
     exact (List.nodup_append.mp h1).2.2 _ hm _ (by simp) rfl
    have szq := (hq9 z hzs).2.2.2 hznt
    have sT : ((Tn : Nat) : Int).natAbs < 2 ^ 6 := by rw [VJ]; omega
    have sm3 : m.natAbs < 2 ^ 3 := by omega
    have hdp : (0 : Int) < (rs[i].2.den : Int) * (Tn : Int) := Int.mul_pos (by omega) (by omega)
    have szn := Zaw hpsz.1 sm3
    have szdn := Zaw (Z4 hpsz) sT
    have szsh : SzQ 117 (Rat.divInt (rs[i].2.num * m) ((rs[i].2.den : Int) * (Tn : Int))) := SzQ.of (by omega) (ZU szn (by omega)) (ZU szdn (by omega))
    have h0sh : 0 <= Rat.divInt (rs[i].2.num * m) ((rs[i].2.den : Int) * (Tn : Int)) := (Rat.divInt_nonneg_iff_of_pos_right hdp).mpr (Int.mul_nonneg hpr.2 hm4.1)
    have hdsh : (Rat.divInt (rs[i].2.num * m) ((rs[i].2.den : Int) * (Tn : Int))).den ∣ B * (rs[i].2.den * Tn) := by
     have e : ((rs[i].2.den : Int) * (Tn : Int)) = ((rs[i].2.den * Tn : Nat) : Int) := by simp
     rw [e]
     exact VU (ZoI (VZ hden hTn0)) (Nat.dvd_mul_left _ _)
    walk_at "rd"
    refine ⟨_, e10, rfl, _, _, rfl, _, _, rfl, rfl, xs, s010 _ _ hp, .ref pr, ?_, pr, rfl, _, hprt, _, rfl, sv9, .inl (s10 _ _ eb9), .inr z, rfl, v, ev, py, rfl, _, hpy, _, rfl, _, rfl, ?_⟩
    ·rw [show (1 : Int) + (i : Int) - 1 = (i : Int) by omega, <- exr]
     exact ZP (Yc hix)
    have sTs : ps.sum.natAbs < 2 ^ 6 := by rw [<- hTs]; exact sT
    refine ⟨m, rfl, JI hpsz.1 sm3 (by decide), py, rfl, _, hpy, _, rfl, ps, s10 _ _ epp9, _, rfl, JI (Z4 hpsz) sTs (by decide), _, _, rfl, ?_⟩
    rw [<- hTs]
    refine ⟨Big.of szdn (by decide), hdp, λr11 H11 s11 v11 => ⟨v, r11, _, _, rfl, rv.same s11, v11, szq.mono (by omega), szsh.mono (by decide), λr12 H12 s12 v12 => ?_⟩⟩
    have s912 := s10.trans (s11.trans s12)
    have eb12 := s912 _ _ eb9
    have kp : ∀ b' ys, H12 b' = some (.tup ys) -> upd H12 b (.dK (Jf sv9 (Sum.inr z) r12)) b' = some (.tup ys) := λb' ys e => by rw [Ze (Jc e eb12 (by intro z; cases z))]; exact e
    refine ⟨sv9, eb12, .inr z, rfl, by rw [hS9.1]; omega, _, _, _, Jf sv9 (Sum.inr z) r12, λy => if y = z then qg y + Rat.divInt (rs[i].2.num * m) ((rs[i].2.den : Int) * (Tn : Int)) else qg y, rfl, Zr hb (s9.trans s912), upd_same, by rw [Ze hbn.symm]; exact s912 _ _ en9, by rw [Ze hnpb]; exact s912 _ _ enp9, by rw [Ze hppb]; exact s912 _ _ epp9, ?_, λy hy => ?_, ?_, λy hy => ?_, λG hG => ?_⟩
    ·refine ShV.put ((hS9.keep λb ys e => s912 _ _ e).keep kp) hzs ?_ λy hy => if_neg hy
     rw [if_pos rfl]
     exact v12.keep kp
    ·obtain ⟨d1, d2, d3, d4⟩ := hq9 y hy
     have htk : us.take (j + 1) = us.take j ++ [z] := by rw [Yw, hzj]; rfl
     dsimp only
     by_cases cy : y = z
     ·subst cy
      rw [if_pos rfl]
      exact ⟨Znj hB'0 d1 hdsh, Rat.add_nonneg d2 h0sh, szq.add szsh (by omega), λhn => absurd (by rw [htk]; simp) hn⟩
     ·rw [if_neg cy]
      exact ⟨d1, d2, d3, λhn => d4 λhm => hn (by rw [htk]; exact Vt _ hm)⟩
    ·rw [Zeb hnd hzs, ht9, Vj, ZcP (by omega), <- Int.mul_add, ZgE ps j m hmj]
    ·have htk : us.take (j + 1) = us.take j ++ [z] := by rw [Yw, hzj]; rfl
     rw [htk, Yu] at hy
     have hyz : y ≠ z := λe => hy (.inr (by simp [e]))
     show (if y = z then _ else qg y) = qf y
     rw [if_neg hyz]
     exact hi9 y λh => hy (.inl h)
    ·have e : Rat.divInt (rs[i].2.num * (ps.take (j + 1)).sum) ((rs[i].2.den : Int) * (Tn : Int)) = Rat.divInt (rs[i].2.num * (ps.take j).sum) ((rs[i].2.den : Int) * (Tn : Int)) + Rat.divInt (rs[i].2.num * m) ((rs[i].2.den : Int) * (Tn : Int)) := by rw [ZcP (by omega), <- Int.mul_add, ZgE ps j m hmj]
     rw [e, <- Vj]
     have h1 := hg9 G hG
     by_cases cz : z ∈ G
     ·rw [Zeb hG cz]
      exact Rat.add_le_add_right.mpr h1
     ·rw [show (G.map λy => if y = z then qg y + Rat.divInt (rs[i].2.num * m) ((rs[i].2.den : Int) * (Tn : Int)) else qg y) = G.map qg from YO λy hy => if_neg λe : y = z => cz (by rw [<- e]; exact hy)]
      refine Rat.le_trans h1 ?_
      have h2 := Rat.add_le_add_left (c := ZX (G.map qf) + Rat.divInt (rs[i].2.num * (ps.take j).sum) ((rs[i].2.den : Int) * (Tn : Int))).mpr h0sh
      rw [Yaf] at h2
      exact h2
   ·obtain ⟨q4, q9, q10, sv9, qg, rfl, s9, eb9, en9, enp9, epp9, hS9, hq9, ht9, hi9, hg9⟩ := hP
    rw [Yg, YE] at hi9
    rw [Yg, <- hpl, YE] at ht9 hg9
    have hBle : B * (rs[i].2.den * Tn) <= 2 ^ (117 * (i + 1)) := by
     have h1 : rs[i].2.den <= 2 ^ 110 := Ys hpsz.2
     have h2 : rs[i].2.den * Tn <= 2 ^ 110 * 2 ^ 6 := VR h1 (by omega)
     refine Yh (VR hB1 h2) ?_
     rw [<- Vl, <- Vl]
     exact YU (by decide) (by omega)
    have hnl' : (rs.length - (i + 1)) * ss.length <= ns'.length := by
     have h1 : (rs.length - i) * ss.length = (rs.length - (i + 1)) * ss.length + ss.length := by
      rw [show rs.length - i = (rs.length - (i + 1)) + 1 by omega, Nat.add_mul, Nat.one_mul]
     omega
    refine ⟨_, _, _, _, _, _, sv9, qg, B * (rs[i].2.den * Tn), ns', rfl, s9, eb9, en9, hnl', h8, hS9, hB'0, hBle, λz hz' => ⟨(hq9 z hz').1, (hq9 z hz').2.1, (hq9 z hz').2.2.1⟩, λj r hj hr => ?_, λks hkn hkm => ?_, λG hGn hGs ks hkn hkm => ?_⟩
    ·by_cases cj : j = i
     ·subst cj
      rw [hri] at hr
      cases hr
      exact VU (Yau _ _) (Nat.dvd_mul_left _ _)
     ·exact VU (hd4 j r (by omega) hr) hdv
    ·have hpa : Zl rs (i + 1) = rs[i].2 := by unfold Zl; rw [Nat.add_sub_cancel, hri]; rfl
     have h1 := ht4 (ks.filter λk => !decide (k = i + 1)) (hkn.filter _) λk => by
      rw [Yt, hkm k]
      simp
      constructor
      ·rintro ⟨⟨h1, h2⟩, h3⟩; exact ⟨by omega, h2⟩
      ·rintro ⟨h1, h2⟩; exact ⟨⟨by omega, h2⟩, by omega⟩
     by_cases hu : us = []
     ·have hnk : ∀ k ∈ ks, k ≠ i + 1 := λk hk e => (hneed.mp (e ▸ ((hkm k).mp hk).2)) hu
      rw [List.filter_eq_self.mpr λk hk => by simp [hnk k hk]] at h1
      have hps : ps = [] := V2.mp (by rw [hpl, hu]; rfl)
      rw [ht9, h1, hps, List.sum_nil, Int.mul_zero, YaC, Yaf]
     ·have hTs := hTn2 hu
      have hmem : i + 1 ∈ ks := (hkm _).mpr ⟨Yd _, hneed.mpr hu⟩
      have hpm : ks.Perm ((i + 1) :: ks.filter λk => !decide (k = i + 1)) := by
       refine (List.perm_ext_iff_of_nodup hkn ?_).mpr λk => ?_
       ·rw [Y6]
        exact ⟨λh => by simpa using (List.mem_filter.mp h).2, hkn.filter _⟩
       ·rw [Ym, Yt]
        simp
        by_cases ck : k = i + 1
        ·subst ck; simp [hmem]
        ·simp [ck]
      rw [Zdj (hpm.map _), Yr, ZL, hpa, <- h1, ht9, <- hTs, V3 (by omega), Vn, Rat.add_comm]
    ·have hpa : Zl rs (i + 1) = rs[i].2 := by unfold Zl; rw [Nat.add_sub_cancel, hri]; rfl
     have hwG : ∀ z ∈ G, WayR rs (hf z) (wayL rs (hf z)) := λz hz => (hway z (hGs z hz)).1
     have h1 := hg4 G hGn hGs (ks.filter λk => !decide (k = i + 1)) (hkn.filter _) λk => by
      rw [Yt, hkm k]
      simp
      constructor
      ·rintro ⟨⟨h1, h2⟩, h3⟩; exact ⟨by omega, h2⟩
      ·rintro ⟨h1, h2⟩; exact ⟨⟨by omega, h2⟩, by omega⟩
     by_cases hm : ∃ z ∈ G, z ∈ us
     ·obtain ⟨z, hzG, hzu⟩ := hm
      have hTs := hTn2 λe => by rw [e] at hzu; cases hzu
      have hmem : i + 1 ∈ ks := (hkm _).mpr ⟨Yd _, (ZaP hwG).mpr ⟨z, hzG, hus2 z hzu⟩⟩
      have hpm : ks.Perm ((i + 1) :: ks.filter λk => !decide (k = i + 1)) := by
       refine (List.perm_ext_iff_of_nodup hkn ?_).mpr λk => ?_
       ·rw [Y6]
        exact ⟨λh => by simpa using (List.mem_filter.mp h).2, hkn.filter _⟩
       ·rw [Ym, Yt]
        simp
        by_cases ck : k = i + 1
        ·subst ck; simp [hmem]
        ·simp [ck]
      rw [Zdj (hpm.map _), Yr, ZL, hpa]
      have h2 := hg9 G hGn
      rw [<- hTs, V3 (by omega), Vn] at h2
      refine Rat.le_trans h2 ?_
      rw [Rat.add_comm]
      exact Rat.add_le_add_left.mpr h1
     ·have hnk : ∀ k ∈ ks, k ≠ i + 1 := λk hk e => by
       obtain ⟨z, hzG, hkz⟩ := (ZaP hwG).mp (e ▸ ((hkm k).mp hk).2)
       exact hm ⟨z, hzG, hum z (hGs z hzG) hkz⟩
      rw [List.filter_eq_self.mpr λk hk => by simp [hnk k hk]] at h1
      rw [show G.map qg = G.map qf from YO λz hz => hi9 z λh => hm ⟨z, hz, h⟩]
      exact h1
  ·obtain ⟨o4, o6, o7, o8, o9, o10, svs, qf, B, ns, rfl, s4, eb4, en4, hnl4, hn7, hS4, hB0, hB1, hq4, hd4, ht4, hg4⟩ := hP
   walk_at "rd"
   have e20 : (((xs.length : Int) + 1 - 1).toNat) = rs.length := by omega
   rw [e20] at hB1 hd4 ht4 hg4
   refine q b H4 svs qf B hb s4 eb4 hS4 hB0 (Yh hB1 (YU (by decide) (by omega))) (λz hz => ⟨(hq4 z hz).1, (hq4 z hz).2.1⟩) (λr hr => ?_) (λks hkn hkm => ht4 ks hkn λk => (hkm k).trans ⟨λh => ⟨(Z0 h).2, h⟩, λh => h.2⟩) λG hGn hGs ks hkn hkm => hg4 G hGn hGs ks hkn λk => (hkm k).trans ⟨λh => ⟨(Z0 h).2, h⟩, λh => h.2⟩
   obtain ⟨j, hj, rfl⟩ := VH hr
   exact hd4 j _ hj (Yc hj)
end
theorem ShV.cons {H : Hp} {svs : List (ZC × V)} {ss : List Str} {qf : Str -> Rat} {y : Str} {v : V} (r : RatV H v (qf y)) (h : ShV H svs ss qf) : ShV H ((Sum.inr y, v) :: svs) (y :: ss) qf := ⟨by simp [h.1], λi z e => by
 cases i with
 | zero => cases e; exact ⟨v, rfl, r⟩
 | succ i => exact h.2 i z e⟩
def ShV.congr {H : Hp} {svs : List (ZC × V)} {ss : List Str} {qf qg : Str -> Rat} (h : ShV H svs ss qf) (e : ∀ z ∈ ss, qg z = qf z) : ShV H svs ss qg := ⟨h.1, λi z hz => let ⟨v, h1, r⟩ := h.2 i z hz; ⟨v, h1, by rw [e z (Yq hz)]; exact r⟩⟩
theorem ShV.drop {H : Hp} {qf : Str -> Rat} {z : Str} : ∀ {ss : List Str} {svs : List (ZC × V)}, ShV H svs ss qf -> ShV H (JU svs (Sum.inr z)) (ss.filter λy => decide (y ≠ z)) qf
 | [], svs, h => by
  have : svs = [] := V2.mp h.1
  subst this
  exact ⟨rfl, λi z e => by simp at e⟩
 | y :: ss, [], h => by have := h.1; simp at this
 | y :: ss, kv :: svs, h => by
  obtain ⟨v, e, r⟩ := h.2 0 y rfl
  cases e
  have ih := ShV.drop (z := z) (show ShV H svs ss qf from ⟨by have := h.1; simpa using this, λi z e => h.2 (i + 1) z e⟩)
  unfold JU at ih ⊢
  by_cases c : y = z
  ·rw [List.filter_cons_of_neg (by simp [c]), List.filter_cons_of_neg (by simp [c])]
   exact ih
  ·rw [List.filter_cons_of_pos (by simpa using c), List.filter_cons_of_pos (by simpa using c)]
   exact ShV.cons r ih
def nine : Str := Str.ofString "zzzzzzzzz"
def Zlx : nine.length = 9 := by decide +kernel
def Zsi (ss ts : List Str) (a a' : Str -> Int) : Prop := ¬ (ts.length = ss.length /\ ∀ z ∈ ts, z ∈ ss) \/ (ts = ss /\ sm ss a' ≠ sm ss a)
def Zfk : Sp := λvs H Q _ => ∃ (b : Addr) (c : Int) (svs : List (ZC × V)) (ss : List Str) (B : Nat) (a : Str -> Int) (fi : Int), vs = [.ref b, .int c] /\ H b = some (.dK svs) /\ ShV H svs ss (λz => Zs B (a z)) /\ ss.Nodup /\ ss.length <= 12 /\ (∀ z ∈ ss, z.length <= 8) /\ 0 < B /\ B < 2 ^ 2600 /\ Rat.divInt (1 + c / 6 % 12) (1 + c / 72 % 6) = Zs B fi /\ 0 < fi /\ fi.natAbs < 2 ^ 2600 /\ (∀ z ∈ ss, (a z).natAbs < 2 ^ 2600 /\ (a z + fi).natAbs < 2 ^ 2600 /\ (a z - fi).natAbs < 2 ^ 2600) /\
 ∀ p H' mvs ts a', H p = none -> Same H H' -> H' p = some (.dK mvs) -> ShV H' mvs ts (λz => Zs B (a' z)) -> ts.Nodup -> ts.length <= 13 -> (∀ z ∈ ts, (a' z).natAbs < 2 ^ 2600) -> Zsi ss ts a a' -> Q (.ref p) H'
section
variable {P : Program} {w : World} {K : PySem.W.Frag} {mg : Str -> Option Value} {base : Heap} {f : Addr} {fd : FuncData}
def Zjb (F : Fun K "_law_spoilt" "_law_spoilt" Zbu f fd) (JD : mg "dict" = none) (ZH : mg "list" = none) (ZA : mg "len" = none) (ZW : Fn P w K mg base Zx 1 "_law_low" ["_law_top", "_law_bottom"] ZbU) (ZaG : Fn P w K mg base Zx 2 "_law_add" ["_law_one", "_law_other"] Zf0) : FnOk P w K mg base Zx 3 f fd ["_law_sharing", "_law_cell"] Zfk := by
 refine JN F sc_law_spoilt (λvs H Q E h => ?_) (λcdv A outer s H vs Q E hr h => ?_)
 ·obtain ⟨b, c, svs, ss, B, a, fi, rfl, _⟩ := h; rfl
 obtain ⟨b, c, svs, ss, B, a, fi, rfl, hb, hS, hnd, hfew, h8, hB0, hB1, hfe, hf0, hfz, haz, q⟩ := h
 have szf : ∀ m : Int, m.natAbs < 2 ^ 2600 -> SzQ 3000 (Zs B m) := λm h => (Zbe hB0 hB1 h).mono (by decide)
 have h9 : nine ∉ ss := λh => by have := h8 _ h; rw [Zlx] at this; omega
 refine ⟨_, (Zd (Zo 2 sc_law_spoilt.nd (ZeA rfl JD (Zg (Zf 0) Za)))
   (Zd (Zo 3 sc_law_spoilt.nd (ZfU rfl ZH (Zg (Zf 0) Za)))
   (Zd (Zo 4 sc_law_spoilt.nd (ZY (Zf 1) Zc))
   (Zd (Zo 5 sc_law_spoilt.nd (ZB ZW hr (by decide) rfl (Zg (Jg Zc (ZY (Jk (Zf 1) Zc) Zc)) (Zg (Jg Zc (ZY (Jk (Zf 1) Zc) Zc)) Za))))
   (Zd (Jo (t_w (ZmE (ZkD (Zf 4) Zc) (Zf6 (ZkD (Jt rfl ZA (Zg (Zf 3) Za)) Zc)))) (Zd (Zcv (Jm hr) (Zf 2) JR (Jz (JJ (Zg (Zf 5) (Zg (Js (Zg Zc (Zg Zc Za))) Za))) (ZY (Jk (Zf 1) Zc) Zc)))
   (Zh (Zy (Zf 2)))) Je)
   (Zd (Zo 6 sc_law_spoilt.nd (Jz (Zf 3) (ZY (Jk (Zf 1) Zc) (Jt rfl ZA (Zg (Zf 3) Za)))))
   (Zd (Jo (ZkD (Zf 4) Zc) (Zh (Ja (ZmX (Zf 2) (Zf 6)))) (Zh (Jo (ZkD (Zf 4) Zc) (Zh (Zcv (Jm hr) (Zf 2) JR (ZmX (Zf 2) (Zf 6)))) (Zh (Jo (ZoS (Zf 4) Zc) (Zh (Zcv (Jm hr) (Zf 2) (Zf 6) (ZB ZaG hr (by decide) rfl (Zg (JC (Jm hr) (Zf 2) (Zf 6)) (Zg (Zf 5) Za))))) (Zh (Zcv (Jm hr) (Zf 2) (Zf 6) (ZB ZaG hr (by decide) rfl (Zg (JC (Jm hr) (Zf 2) (Zf 6)) (Zg (Js (Zg (JT Zc (ZI (Zf 5) Zc)) (Zg (ZI (Zf 5) Zc) Za))) Za))))))))))
   (Zh (Zy (Zf 2)))))))))), ?_⟩
 rw [show Zu ["_law_sharing", "_law_cell", "_law_made", "_law_names", "_law_way_here", "_law_more", "_law_name"] [.ref b, .int c] = [some (.ref b), some (.int c), none, none, none, none, none] from rfl]
 walk_at "rd"
 have hsk := hS.keys
 have hkv : (svs.map λkv => kV kv.1) = ss.map V.str := by
  have := congrArg (List.map kV) hsk
  rw [Yv, Yv] at this
  exact this
 refine ⟨b, svs, rfl, .inl hb, λm H1 hm s1 e1 => ⟨b, svs, rfl, .inl (s1 _ _ hb), λnl H2 hnl s2 e2 => ⟨_, _, rfl, Big.of (n := 3) (by omega) (by decide), by omega, λmo H3 s3 v3 => ?_⟩⟩⟩
 rw [hfe] at v3
 rw [hkv] at e2
 have s03 := s1.trans (s2.trans s3)
 have em3 := (s2.trans s3) _ _ e1
 have en3 := s3 _ _ e2
 have hS3 := hS.keep λb ys e => s03 _ _ e
 have arm0 : ∀ (p : Addr) (H4 : Hp), H3 p = none -> Same H3 H4 -> H4 p = some (HO.tup [V.int 0, V.int 1]) -> ∀ (pl : Addr) (H5 : Hp), H4 pl = none -> Same H4 H5 -> H5 pl = some (HO.lst [mo, V.ref p]) -> ∃ x3, H5 pl = some (HO.lst x3) /\ ∃ x4, atI x3 (c / 6 % 2) = some x4 /\ ∃ a, V.ref m = V.ref a /\ ∃ x5, H5 a = some (HO.dK x5) /\ ∃ x6, V.str (Str.ofString "zzzzzzzzz") = kV x6 /\ x5.length < 1000 /\ Q (V.ref m) (upd H5 a (HO.dK (Jf x5 x6 x4))) := by
  intro p H4 hp s4 e4 pl H5 hpl s5 e5
  have s35 := s4.trans s5
  obtain ⟨v, g, hv, hrv, hgz⟩ : ∃ v g, atI [mo, V.ref p] (c / 6 % 2) = some v /\ RatV H5 v (Zs B g) /\ g.natAbs < 2 ^ 2600 := by
   by_cases c2 : c / 6 % 2 = 0
   ·exact ⟨mo, fi, by rw [c2]; rfl, v3.same s35, hfz⟩
   ·refine ⟨.ref p, 0, by rw [show c / 6 % 2 = 1 by omega]; rfl, ?_, VO _⟩
    rw [ZaZ]
    exact ⟨p, rfl, s5 _ _ e4⟩
  have em5 := s35 _ _ em3
  have kp : ∀ b' ys, H5 b' = some (.tup ys) -> upd H5 m (.dK (Jf svs (Sum.inr nine) v)) b' = some (.tup ys) := λb' ys e => by rw [Ze (Jc e em5 (by intro z; cases z))]; exact e
  refine ⟨_, e5, v, hv, m, rfl, svs, em5, .inr nine, rfl, by rw [hS.1]; omega, ?_⟩
  refine q m _ _ (ss ++ [nine]) (λz => if z = nine then g else a z) hm (Zr hm (s03.trans s35)) upd_same ?_ ?_ (by simp; omega) (λz hz => ?_) (.inl λh => by have := h.1; simp at this)
  ·refine ShV.snoc (ShV.congr (((hS3.keep λb ys e => s35 _ _ e).keep kp)) λz hz => ?_) h9 ?_
   ·rw [if_neg (λe : z = nine => h9 (by rw [<- e]; exact hz))]
   ·rw [if_pos rfl]; exact hrv.keep kp
  ·exact List.nodup_append.mpr ⟨hnd, by simp, λx hx y hy e => h9 (by rw [<- List.mem_singleton.mp hy, <- e]; exact hx)⟩
  ·split
   ·exact hgz
   ·rename_i hne
    rcases Yu.mp hz with hz | hz
    ·exact (haz z hz).1
    ·exact absurd (YB.mp hz) hne
 by_cases c0 : c % 6 = 0
 ·rw [if_pos c0]; exact arm0
 rw [if_neg c0]
 refine ⟨nl, rfl, _, .inl en3, ?_⟩
 rw [Yg]
 by_cases cl : (ss.length : Int) = 0
 ·rw [if_pos cl]; exact arm0
 rw [if_neg cl]
 have g0 := YT (c / 500) (b := (ss.length : Int)) (by omega)
 have g1 := Y1 (c / 500) (b := (ss.length : Int)) (by omega)
 obtain ⟨i, hi⟩ : ∃ i : Nat, c / 500 % (ss.length : Int) = (i : Int) := ⟨_, (V5 g0).symm⟩
 have hil : i < ss.length := by omega
 have hz0 := YI hil
 refine ⟨nl, rfl, _, .inl en3, by rw [Yg]; omega, nl, rfl, _, en3, .str ss[i], by rw [Yg, hi]; exact ZP (by rw [Yi, Yc hil]; rfl), ?_⟩
 generalize ss[i] = z0 at hz0
 obtain ⟨v, ev, rv⟩ := hS3.val hnd z0 hz0
 have hfl : (ss.filter λy => decide (y ≠ z0)).length ≠ ss.length := λe => by
  have := List.length_filter_eq_length_iff.mp e z0 hz0
  simp at this
 have hfle : (ss.filter λy => decide (y ≠ z0)).length <= ss.length := YK _ _
 have fin : ∀ (H5 : Hp) (r5 : V) (g : Int), Same H3 H5 -> RatV H5 r5 (Zs B (a z0 + g)) -> (a z0 + g).natAbs < 2 ^ 2600 -> g ≠ 0 -> ∃ a, V.ref m = V.ref a /\ ∃ x, H5 a = some (HO.dK x) /\ ∃ x3, V.str z0 = kV x3 /\ x.length < 1000 /\ Q (V.ref m) (upd H5 a (HO.dK (Jf x x3 r5))) := λH5 r5 g s5 v5 hz5 hg0 => by
  have em5 := s5 _ _ em3
  have kp : ∀ b' ys, H5 b' = some (.tup ys) -> upd H5 m (.dK (Jf svs (Sum.inr z0) r5)) b' = some (.tup ys) := λb' ys e => by rw [Ze (Jc e em5 (by intro z; cases z))]; exact e
  refine ⟨m, rfl, svs, em5, .inr z0, rfl, by rw [hS.1]; omega, q m _ _ ss (λz => a z + if z = z0 then g else 0) hm (Zr hm (s03.trans s5)) upd_same ?_ hnd (by omega) (λz hz => ?_) (.inr ⟨rfl, λh => ?_⟩)⟩
  ·refine ShV.put ((hS3.keep λb ys e => s5 _ _ e).keep kp) hz0 ?_ λy hy => ?_
   ·rw [if_pos rfl]; exact v5.keep kp
   ·rw [if_neg hy, Int.add_zero]
  ·split
   ·rename_i e; rw [e]; exact hz5
   ·rw [Int.add_zero]; exact (haz z hz).1
  ·rw [Zfo, Zdf hnd hz0 λ_ => g] at h
   omega
 by_cases c1 : c % 6 = 1
 ·rw [if_pos c1]
  simp only [Zg1]
  walk_at "rd"
  have kp : ∀ b' ys, H3 b' = some (.tup ys) -> upd H3 m (.dK (JU svs (Sum.inr z0))) b' = some (.tup ys) := λb' ys e => by rw [Ze (Jc e em3 (by intro z; cases z))]; exact e
  exact ⟨.inl ⟨svs, .inl em3⟩, svs, em3, .inr z0, rfl, ⟨v, ev⟩, q m _ _ _ a hm (Zr hm s03) upd_same (hS3.drop.keep kp) (hnd.filter _) (by omega) (λz hz => (haz z (Yt.mp hz).1).1) (.inl λh => hfl h.1)⟩
 rw [if_neg c1]
 by_cases c2 : c % 6 = 2
 ·rw [if_pos c2]
  simp only [Zg1]
  walk_at "rd"
  have h9f : nine ∉ ss.filter λy => decide (y ≠ z0) := λh => h9 (Yt.mp h).1
  have kp : ∀ b' ys, H3 b' = some (.tup ys) -> upd (upd H3 m (.dK (JU svs (Sum.inr z0)))) m (.dK (Jf (JU svs (Sum.inr z0)) (Sum.inr nine) v)) b' = some (.tup ys) := λb' ys e => by
   have hne := Jc e em3 (by intro z; cases z)
   rw [Ze hne, Ze hne]
   exact e
  have hdl : (JU svs (Sum.inr z0)).length <= svs.length := YK _ _
  refine ⟨.inl ⟨svs, .inl em3⟩, svs, em3, .inr z0, rfl, v, ev, _, upd_same, .inr nine, rfl, by have := hS.1; omega, ?_⟩
  refine q m _ _ ((ss.filter λy => decide (y ≠ z0)) ++ [nine]) (λz => if z = nine then a z0 else a z) hm (Zr hm (Zr hm s03)) upd_same ?_ ?_ (by simp at hfle ⊢; omega) (λz hz => ?_) (.inl λh => h9 (h.2 nine (by simp)))
  ·refine ShV.snoc (ShV.congr (hS3.drop.keep kp) λz hz => ?_) h9f ?_
   ·rw [if_neg (λe : z = nine => h9f (by rw [<- e]; exact hz))]
   ·rw [if_pos rfl]; exact rv.keep kp
  ·exact List.nodup_append.mpr ⟨hnd.filter _, by simp, λx hx y hy e => h9f (by rw [<- List.mem_singleton.mp hy, <- e]; exact hx)⟩
  ·split
   ·exact (haz z0 hz0).1
   ·rename_i hne
    rcases Yu.mp hz with hz | hz
    ·exact (haz z (Yt.mp hz).1).1
    ·exact absurd (YB.mp hz) hne
 rw [if_neg c2]
 by_cases c5 : c % 6 < 5
 ·rw [if_pos c5]
  refine ⟨m, rfl, svs, .inl em3, .inr z0, rfl, v, ev, _, _, _, _, rfl, rv, v3, szf _ (haz z0 hz0).1, szf _ hfz, λr4 H4 s4 v4 => ?_⟩
  rw [ZbB hB0] at v4
  exact fin H4 r4 fi s4 v4 (haz z0 hz0).2.1 (by omega)
 rw [if_neg c5]
 obtain ⟨pm, rfl, hpm⟩ := id v3
 refine ⟨m, rfl, svs, .inl em3, .inr z0, rfl, v, ev, pm, rfl, _, hpm, _, rfl, _, rfl, pm, rfl, _, hpm, _, rfl, λp2 H4 hp2 s4 e4 => ?_⟩
 have v5 : RatV H4 (.ref p2) (Zs B (-fi)) := by
  have e : Zs B (-fi) = -(Zs B fi) := by unfold Zs; rw [Rat.neg_divInt]
  rw [e]
  refine ⟨p2, rfl, ?_⟩
  rw [e4, Rat.neg_num, Rat.neg_den, Int.zero_sub]
 refine ⟨_, _, _, _, rfl, rv.same s4, v5, szf _ (haz z0 hz0).1, szf _ (by omega), λr5 H5 s5 v6 => ?_⟩
 rw [ZbB hB0, <- Int.sub_eq_add_neg] at v6
 exact fin H5 r5 (-fi) (s4.trans s5) (by rw [<- Int.sub_eq_add_neg]; exact v6) (by rw [<- Int.sub_eq_add_neg]; exact (haz z0 hz0).2.2) (by omega)
end
def Zd0 (CT CNS : Addr) : Sp := λvs H _ E => ∃ (x : V) (d sd : Addr) (b : Bool) (rs : List (Nat × Rat)) (o : Obj) (kvs svs : List (ZC × V)) (ss ts : List Str) (hf : Str -> Nat) (B : Nat) (a : Str -> Int) (cs : Nat -> Int), vs = [x, .ref d, .ref sd, .bl b] /\ Nj H CT x d sd rs o kvs svs ss ts hf B a cs /\ ∀ H', Same H H' -> E (.ref CNS) none H'
def ZdY (CT : Addr) : Sp := λvs H Q _ => ∃ (x : V) (d sd : Addr) (b : Bool) (rs : List (Nat × Rat)) (o : Obj) (kvs svs : List (ZC × V)) (ss ts : List Str) (hf : Str -> Nat) (B : Nat) (a : Str -> Int) (cs : Nat -> Int), vs = [x, .ref d, .ref sd, .bl b] /\ Nj H CT x d sd rs o kvs svs ss ts hf B a cs /\ ∀ H', Same H H' -> Q (.bl true) H'
section
variable {P : Program} {w : World} {K : PySem.W.Frag} {mg : Str -> Option Value} {base : Heap} {f pt : Addr} {fd : FuncData} {CT CNS CSE CNF CNN CNP CNR CTM : Addr}
def Zik (F : FunD K "_law_looked" "_law_looked" Zai .none f fd) (Fjudged : Fn P w K mg base (CX1 P w) 9 "judged" ["tree", "homes", "sharing"] (Zcm pt CT CNS)) (Flook_sharing : Fn P w K mg base (CX1 P w) 7 "look_sharing" ["tree", "homes", "sharing"] (ZcL CT CNS)) : FnOk P w K mg base (CX1 P w) 10 f fd ["_law_tree", "_law_homes", "_law_sharing", "_law_whole"] (Zd0 CT CNS) := by
 have Zb2 := Fjudged
 have Zag := Flook_sharing
 refine okX F ZeF (λvs H Q E h => ?_) (λcdv A outer s H vs Q E hr h => ?_)
 ·obtain ⟨x, d, sd, b, rs, o, kvs, svs, ss, ts, hf, B, a, cs, rfl, _⟩ := h; rfl
 obtain ⟨x, d, sd, b, rs, o, kvs, svs, ss, ts, hf, B, a, cs, rfl, J, q⟩ := h
 refine ⟨_, (Zh (Jo (Jx (Zf 3)) (Zh (Ja (ZoO ZdO Zb2 hr (by decide) rfl (Zg (Zf 0) (Zg (Zf 1) (Zg (Zf 2) Za)))))) (Zh (Ja (ZoO ZdO Zag hr (by decide) rfl (Zg (Zf 0) (Zg (Zf 1) (Zg (Zf 2) Za)))))))), ?_⟩
 rw [show Zu ["_law_tree", "_law_homes", "_law_sharing", "_law_whole"] [x, .ref d, .ref sd, .bl b] = [some (x), some (.ref d), some (.ref sd), some (.bl b)] from rfl]
 walk_at "rd"
 split
 ·exact ⟨x, d, sd, rs, o, kvs, svs, ss, ts, hf, B, a, cs, rfl, .inr ⟨J, q⟩⟩
 ·exact ⟨x, d, sd, rs, o, kvs, svs, ss, ts, hf, B, a, cs, rfl, .inr ⟨J, q⟩⟩
def Zhp (F : Fun K "_law_refused" "_law_refused" Za9 f fd) (Zk : mg "isinstance" = none) (Zbt : mg "ValueError" = none) (Zbq : mg "ShareError" = some (.ref CSE)) (Zbv : mg "NoFraction" = some (.ref CNF)) (Zen : mg "NoName" = some (.ref CNN)) (ZcZ : mg "NoPlace" = some (.ref CNP)) (Zc0 : mg "NoPrice" = some (.ref CNR)) (ZdC : mg "TooMany" = some (.ref CTM)) (Zas : mg "NoSharing" = some (.ref CNS))
  (xk : ExcK K CNS) (e1 : exmOne K (.ref CNS) (.ref CSE) = some true) (d1 : kitOne K (.ref CNS) (.ref CNF) = some false) (d2 : kitOne K (.ref CNS) (.ref CNN) = some false) (d3 : kitOne K (.ref CNS) (.ref CNP) = some false) (d4 : kitOne K (.ref CNS) (.ref CNR) = some false) (d5 : kitOne K (.ref CNS) (.ref CTM) = some false) (d6 : kitOne K (.ref CNS) (.ref CNS) = some true) (d7 : kitOne K (.ref CNS) (.type "ValueError") = some true)
  (Zbp : Fn P w K mg base (CX1 P w) 10 "_law_looked" ["_law_tree", "_law_homes", "_law_sharing", "_law_whole"] (Zd0 CT CNS)) : FnOk P w K mg base Zx 11 f fd ["_law_tree", "_law_homes", "_law_sharing", "_law_whole"] (ZdY CT) := by
 refine JN F sc_law_refused (λvs H Q E h => ?_) (λcdv A outer s H vs Q E hr h => ?_)
 ·obtain ⟨x, d, sd, b, rs, o, kvs, svs, ss, ts, hf, B, a, cs, rfl, _⟩ := h; rfl
 obtain ⟨x, d, sd, b, rs, o, kvs, svs, ss, ts, hf, B, a, cs, rfl, J, q⟩ := h
 refine ⟨_, (Zd (Zo 4 sc_law_refused.nd Zkt)
   (Zd (Zrk 5 ZgC sc_law_refused.nd Zbq (ZoF (Zsc ZgC Zbp hr (by decide) rfl (Zg (Zf 0) (Zg (Zf 1) (Zg (Zf 2) (Zg (Zf 3) Za)))))) (by exact λea => (Zd (Zo 6 sc_law_refused.nd (JJ (Zg (ZbR rfl Zk (Zg (Zf 5) (Zg (Zic rfl Zbv) Za))) (Zg (ZbR rfl Zk (Zg (Zf 5) (Zg (Zic rfl Zen) Za))) (Zg (ZbR rfl Zk (Zg (Zf 5) (Zg (Zic rfl ZcZ) Za))) (Zg (ZbR rfl Zk (Zg (Zf 5) (Zg (Zic rfl Zc0) Za))) Za))))))
   (Zd (Ja (Zed (Zf 6) (Zg (ZbR rfl Zk (Zg (Zf 5) (Zg (Zic rfl ZdC) Za))) Za)))
   (Zh (Zo 4 sc_law_refused.nd (ZfS (ZbR rfl Zk (Zg (Zf 5) (Zg (Zic rfl Zas) Za))) (ZfS (ZbR rfl Zk (Zg (Zf 5) (Zg (ZoQ rfl Zbt rfl) Za))) (Zjs (Zqk Zkt (Zf 6)))))))))))
   (Zh (Zy (Zf 4))))), ?_⟩
 rw [show Zu ["_law_tree", "_law_homes", "_law_sharing", "_law_whole", "_law_refused_here", "e", "_law_others"] [x, .ref d, .ref sd, .bl b] = [some (x), some (.ref d), some (.ref sd), some (.bl b), none, none, none] from rfl]
 walk_at "rd"
 refine ⟨x, d, sd, b, rs, o, kvs, svs, ss, ts, hf, B, a, cs, rfl, J, λH1 s1 => ⟨CNS, rfl, e1, λea hn => ?_⟩⟩
 walk_at "rd"
 refine ⟨ea, CNS, _, _, false, rfl, upd_same, xk, rfl, d1, ea, CNS, _, _, false, rfl, upd_same, xk, rfl, d2, ea, CNS, _, _, false, rfl, upd_same, xk, rfl, d3, ea, CNS, _, _, false, rfl, upd_same, xk, rfl, d4, λp H2 hp s2 e2 => ⟨⟨_, e2⟩, ea, CNS, _, _, false, rfl, s2 _ _ upd_same, xk, rfl, d5, _, e2, by simp, ?_⟩⟩
 have ee := s2 _ _ (upd_same (H := H1) (a := ea) (o := ZhM CNS ea))
 have hne : ea ≠ p := λz => by rw [<- z, upd_same] at hp; cases hp
 have ee3 : upd H2 p (.lst ([V.bl false, V.bl false, V.bl false, V.bl false] ++ [V.bl false])) ea = some (ZhM CNS ea) := by rw [Ze hne]; exact ee
 refine ⟨ea, CNS, _, _, true, rfl, ee3, xk, rfl, d6, _, rfl, ?_⟩
 rw [if_pos rfl]
 refine ⟨ea, CNS, _, _, true, rfl, ee3, xk, rfl, d7, ?_⟩
 simp only [rIn]
 walk_at "rd"
 refine ⟨_, .inl (.of upd_same), rfl, by decide, ?_⟩
 have hs : Same H (upd H2 p (HO.lst [V.bl false, V.bl false, V.bl false, V.bl false, V.bl false])) := Zr ((s1.trans (ZG hn _)).free hp) ((s1.trans (ZG hn _)).trans s2)
 exact q _ hs
end
def Zgc {kvs : List (ZC × V)} {n : Nat} (h : HomesV kvs n) (hn : (kvs.map (·.1)).Nodup) : ∃ ss : List Str, kvs.map (·.1) = ss.map Sum.inr /\ ss.Nodup /\ ss.length = kvs.length /\ ∀ z ∈ ss, ∃ k : Nat, Jw kvs (Sum.inr z) = some (.int (k : Int)) /\ k <= n := by
 have e : kvs.map (·.1) = (kvs.map λkv => (match kv.1 with | Sum.inr z => z | Sum.inl _ => Str.empty)).map (Sum.inr : Str -> ZC) := by
  rw [Yv]
  refine YO λkv hkv => ?_
  obtain ⟨z, k, rfl, _⟩ := h kv hkv
  rfl
 refine ⟨_, e, ?_, by simp, λz hz => ?_⟩
 ·rw [e] at hn
  exact (Vx.mp hn).imp λh c => h (by rw [c])
 ·obtain ⟨kv, hkv, rfl⟩ := Yk.mp hz
  obtain ⟨i, hi, ei⟩ := VH hkv
  obtain ⟨z, k, rfl, hk⟩ := h kv hkv
  exact ⟨k, ZfX (i := i) (by rw [Yc hi, ei]) hn, hk⟩
def ZhC {H : Hp} {a b : Addr} {kvs : List (ZC × V)} {n : Nat} (ha : Rd H a (.dK kvs)) (hb : Rd H b (.dK kvs)) (hN : (kvs.map (·.1)).Nodup) (hv : HomesV kvs n) : EqP H (.ref a) (.ref b) 3 :=
 .dct (n := 1) ha hb rfl (λj x y h1 h2 => by
  rw [h1] at h2
  cases h2
  obtain ⟨z, k, rfl, _⟩ := hv x (Yq h1)
  have z := EqD.flat (H := H) (x := .int (k : Int)) (y := .int (k : Int)) rfl rfl
  rw [ZcH rfl] at z
  exact ⟨rfl, .up z⟩) hN
def ZdZ {H : Hp} {a b : Addr} {svs : List (ZC × V)} {ss : List Str} {qf : Str -> Rat} (ha : Rd H a (.dK svs)) (hb : Rd H b (.dK svs)) (hN : ss.Nodup) (hv : ShV H svs ss qf) : EqP H (.ref a) (.ref b) 3 :=
 .dct (n := 1) ha hb rfl (λj x y h1 h2 => by
  rw [h1] at h2
  cases h2
  have hj : j < ss.length := by rw [<- hv.1]; exact (Yj.mp h1).1
  obtain ⟨v, e, r⟩ := hv.2 j _ (Yc hj)
  rw [h1] at e
  cases e
  obtain ⟨_, _, _, _, h⟩ := ZiM r r
  exact ⟨rfl, h⟩) (by rw [hv.keys]; exact ZfA hN)
def ZbP {B : Nat} {q : Rat} (h : 0 <= q) : 0 <= JE B q := by
 unfold JE
 exact Int.mul_nonneg (Rat.num_nonneg.mpr h) (Int.ediv_nonneg (by omega) (by omega))
def Za3 {α : Type} {B : Nat} (hB : 0 < B) (l : List α) (m : α -> Int) : ZX (l.map λx => Zs B (m x)) = Zs B (sm l m) := by
 induction l with
 | nil => exact (ZaZ B).symm
 | cons x l ih => rw [Yr, ZL, ih, ZD, ZbB hB]
def Zo3 {B : Nat} {q : Rat} {n : Nat} (hB : B <= 2 ^ 2410) (hz : SzQ n q) (hn : n <= 120) : (JE B q).natAbs < 2 ^ 2530 := by
 unfold JE
 rw [Int.natAbs_mul]
 have h1 : ((B : Int) / (q.den : Int)).natAbs <= B := by
  have : (B : Int) / (q.den : Int) = ((B / q.den : Nat) : Int) := rfl
  rw [this, VJ]
  exact YaD _ _
 refine Yo (Nat.mul_lt_mul_of_lt_of_le hz.1 (Yh h1 hB) (VO _)) ?_
 rw [<- Vl]
 exact YU (by decide) (by omega)
theorem Zpf {acc : List Nat} {cs : Nat -> Int} {M : Int} (hl : acc.length <= 20) (h : ∀ k ∈ acc, 0 <= cs k /\ cs k <= M) (hM : 0 <= M) : 0 <= sm acc cs /\ sm acc cs <= 20 * M := by
 have : ∀ l : List Nat, (∀ k ∈ l, 0 <= cs k /\ cs k <= M) -> 0 <= sm l cs /\ sm l cs <= (l.length : Int) * M := by
  intro l
  induction l with
  | nil => intro _; simp [ZjF]
  | cons k l ih =>
   intro h
   have h1 := ih λy hy => h y (.tail _ hy)
   have h2 := h k (.head _)
   rw [ZD, YQ, Int.natCast_add, Int.add_mul]
   refine ⟨by omega, ?_⟩
   have : ((1 : Nat) : Int) * M = M := by simp
   omega
 obtain ⟨h1, h2⟩ := this acc h
 refine ⟨h1, Int.le_trans h2 (Int.mul_le_mul_of_nonneg_right (by omega) hM)⟩
def Zf2 {rs : List (Nat × Rat)} {ss : List Str} {hf : Str -> Nat} {qf : Str -> Rat} {B bn : Nat} (hB0 : 0 < B) (hB1 : B <= 2 ^ 2400) (hb0 : 0 < bn) (hb1 : bn <= 6) (hrl : rs.length <= 20) (hn : ∀ r ∈ rs, SzQ 110 r.2 /\ 0 <= r.2.num) (hqd : ∀ z ∈ ss, (qf z).den ∣ B /\ 0 <= qf z) (hpd : ∀ r ∈ rs, r.2.den ∣ B)
  (htot : ∀ ks : List Nat, ks.Nodup -> (∀ k, k ∈ ks ↔ Jl rs (ss.map hf) k) -> ZX (ss.map qf) = ZX (ks.map (Zl rs))) :
  ∃ (a0 : Str -> Int) (cs : Nat -> Int), (∀ z ∈ ss, qf z = Zs (B * bn) (a0 z)) /\ (∀ z ∈ ss, 0 <= a0 z /\ a0 z <= 20 * 2 ^ 2530) /\ (∀ k, 0 <= cs k /\ cs k <= 2 ^ 2530) /\ (∀ k, Zl rs k = Zs (B * bn) (cs k)) /\ (∀ ks : List Nat, ks.Nodup -> (∀ k, k ∈ ks ↔ Jl rs (ss.map hf) k) -> sm ks cs = sm ss a0) := by
 classical
 have hB' : 0 < B * bn := VZ hB0 hb0
 have hB2 : B * bn <= 2 ^ 2410 := by
  refine Yh (VR hB1 hb1) ?_
  rw [show (2410 : Nat) = 2400 + 10 from rfl, Vl]
  exact Nat.mul_le_mul_left _ (by decide)
 have hdv : B ∣ B * bn := Yau _ _
 have hpk : ∀ k, (Zl rs k).den ∣ B * bn /\ 0 <= Zl rs k /\ SzQ 110 (Zl rs k) := λk => by
  unfold Zl
  cases h : rs[k - 1]? with
  | none => exact ⟨Nat.one_dvd _, Rat.le_refl, Zee (by decide)⟩
  | some r =>
   have hr := Yq h
   exact ⟨VU (hpd r hr) hdv, Rat.num_nonneg.mp (hn r hr).2, (hn r hr).1⟩
 have hcs : ∀ k, 0 <= JE (B * bn) (Zl rs k) /\ JE (B * bn) (Zl rs k) <= 2 ^ 2530 := λk => by
  have h1 := ZbP (B := B * bn) (hpk k).2.1
  have h2 := Zo3 hB2 (hpk k).2.2 (by decide)
  refine ⟨h1, ?_⟩
  have h3 : ((2 ^ 2530 : Nat) : Int) = 2 ^ 2530 := by rw [YaE]; rfl
  omega
 have hq : ∀ z ∈ ss, qf z = Zs (B * bn) (JE (B * bn) (qf z)) := λz hz => (Zdw hB' (VU (hqd z hz).1 hdv)).symm
 have hp : ∀ k, Zl rs k = Zs (B * bn) (JE (B * bn) (Zl rs k)) := λk => (Zdw hB' (hpk k).1).symm
 have hsum : ∀ ks : List Nat, ks.Nodup -> (∀ k, k ∈ ks ↔ Jl rs (ss.map hf) k) -> sm ks (λk => JE (B * bn) (Zl rs k)) = sm ss (λz => JE (B * bn) (qf z)) := λks h1 h2 => by
  have h := htot ks h1 h2
  rw [show ss.map qf = ss.map (λz => Zs (B * bn) (JE (B * bn) (qf z))) from YO λz hz => hq z hz, Za3 hB', show ks.map (Zl rs) = ks.map (λk => Zs (B * bn) (JE (B * bn) (Zl rs k))) from YO λk _ => hp k, Za3 hB'] at h
  exact (Zg7 hB' h).symm
 refine ⟨λz => JE (B * bn) (qf z), λk => JE (B * bn) (Zl rs k), hq, λz hz => ⟨ZbP (hqd z hz).2, ?_⟩, hcs, hp, hsum⟩
 have hnr : (List.range' 1 rs.length).Nodup := (List.pairwise_lt_range' (s := 1) (n := rs.length)).imp λh e => by rw [e] at h; exact YF _ h
 have hks := hsum ((List.range' 1 rs.length).filter λk => decide (Jl rs (ss.map hf) k)) (hnr.filter _) λk => by
  rw [Yt, VM, Ve]
  exact ⟨λh => h.2, λh => ⟨⟨(Z0 h).1, by have := (Z0 h).2; omega⟩, h⟩⟩
 have h1 := ZiU (f := λz => JE (B * bn) (qf z)) (λz hz => ZbP (hqd z hz).2) hz
 have h2 := (Zpf (acc := (List.range' 1 rs.length).filter λk => decide (Jl rs (ss.map hf) k)) (cs := λk => JE (B * bn) (Zl rs k)) (Nat.le_trans (List.length_filter_le _ _) (by simpa using hrl)) (λk _ => hcs k) (Int.pow_nonneg (by decide))).2
 rw [hks] at h2
 exact Int.le_trans h1 h2
def Zkl (pt : Addr) (K : PySem.W.Frag) : Sp := λvs H Q _ => ∃ (a : Addr) (ns : List Int), vs = [.ref a] /\ SqL K H a (ns.map V.int) /\ ZfG H pt "far_roads_first.<locals>.<lambda>" /\ ∀ H', Q (.bl true) H'
section
variable {P : Program} {w : World} {K : PySem.W.Frag} {mg : Str -> Option Value} {base : Heap} {f pt : Addr} {fd : FuncData} {CT CNP CNS : Addr}
def Zpc (F : Fun K "law" "law" Zeo f fd) (ZA : mg "len" = none) (ZH : mg "list" = none) (JD : mg "dict" = none) (ZK : mg "range" = none) (Zv : Fn P w K mg base Zx 1 "_law_cell_at" ["_law_script", "_law_k"] (Za6 K))
  (ZaQ : Fn P w K mg base Zx 3 "_law_roads_by" ["_law_script", "_law_most"] (ZeL K)) (ZaS : Fn P w K mg base Zx 3 "_law_homes_by" ["_law_script", "_law_many", "_law_most"] (Zfr K)) (ZaK : Fn P w K mg base Zx 3 "_law_shared_by" ["_law_roads", "_law_homes", "_law_cell"] Ze8) (Zbx : Fn P w K mg base Zx 3 "_law_spoilt" ["_law_sharing", "_law_cell"] Zfk) (Zag : Fn P w K mg base Zx 7 "look_sharing" ["tree", "homes", "sharing"] (λvs H Q _ => ZcL CT CNS vs H Q E0)) (Zb2 : Fn P w K mg base Zx 9 "judged" ["tree", "homes", "sharing"] (λvs H Q _ => Zcm pt CT CNS vs H Q E0)) (Zba : Fn P w K mg base Zx 11 "_law_refused" ["_law_tree", "_law_homes", "_law_sharing", "_law_whole"] (ZdY CT))
  (Zi4 : Mkr P w K mg base Zx 6 CT "Tree" ["self", "roads"] (Zi1 CT)) : FnOk P w K mg base Zx 12 f fd ["_law_script"] (Zkl pt K) := by
 refine JN F sc_law (λvs H Q E h => ?_) (λcdv A outer s H vs Q E hr h => ?_)
 ·obtain ⟨a, ns, rfl, _⟩ := h; rfl
 obtain ⟨a, ns, rfl, hS, hTb, q⟩ := h
 refine ⟨_, (Zd (Zo 1 sc_law.nd (ZB ZaQ hr (by decide) rfl (Zg (Zf 0) (Zg Zc Za))))
   (Zd (Zo 2 sc_law.nd (ZB ZaS hr (by decide) rfl (Zg (Zf 0) (Zg (Jg (Jt rfl ZA (Zg (Zf 1) Za)) Zc) (Zg Zc Za)))))
   (Zd (Zo 3 sc_law.nd (Zo1 Zi4 hr (by decide) rfl (Zg (ZfD rfl ZH (Zg (Zf 1) Za)) Za)))
   (Zd (Zo 4 sc_law.nd (ZB ZaK hr (by decide) rfl (Zg (Zf 1) (Zg (Zf 2) (Zg (ZB Zv hr (by decide) rfl (Zg (Zf 0) (Zg Zc Za))) Za)))))
   (Zd (Zo 5 sc_law.nd (ZB Zbx hr (by decide) rfl (Zg (Zf 4) (Zg (ZB Zv hr (by decide) rfl (Zg (Zf 0) (Zg Zc Za))) Za))))
   (Zd (Zo 6 sc_law.nd (Js (Zg (ZnA rfl JD (Zg (Zf 2) Za)) (Zg (ZeA rfl JD (Zg (Zf 4) Za)) (Zg (ZeA rfl JD (Zg (Zf 5) Za)) Za)))))
   (Zd (Jr YC (ZdB rfl ZK (Zg Zc Za)) (Zw 7 sc_law.nd) (Zd (Jo (t_w (ZmE (Zpi (ZB Zag hr (by decide) rfl (Zg (Zf 3) (Zg (ZI (Zf 6) Zc) (Zg (ZI (Zf 6) Zc) Za)))) Zrp) (Zf6 (ZoT (ZI (ZB Zb2 hr (by decide) rfl (Zg (Zf 3) (Zg (ZI (Zf 6) Zc) (Zg (ZI (Zf 6) Zc) Za)))) Zc) JR)))) (Zh (Zy Zkt)) Je)
   (Zh (Jr YC (Zrd (Js (Zg Zkt (Zg Zkt Za)))) (Zw 8 sc_law.nd) (Zh (Jo (ZdR (Jx (ZB Zba hr (by decide) rfl (Zg (Zf 3) (Zg (ZI (Zf 6) Zc) (Zg (ZI (Zf 6) Zc) (Zg (Zf 8) Za))))))) (Zh (Zy Zkt)) Je))))))
   (Zh (Zy (ZqZ hr (Zf 6) (Js (Zg (Zf 2) (Zg (Zf 4) (Zg (Zf 5) Za)))))))))))))), ?_⟩
 rw [show Zu ["_law_script", "_law_roads", "_law_homes", "_law_tree", "_law_sharing", "_law_spoilt_here", "_law_handed", "_law_turn", "_law_whole"] [.ref a] = [some (.ref a), none, none, none, none, none, none, none, none] from rfl]
 walk_at "rd"
 simp only [ZeL]
 walk_at "rd"
 refine ⟨⟨ns, hS⟩, λp H1 xs rs hp s1 e1 hR hT hl hn => ?_⟩
 have hxl := hR.1
 refine ⟨xs, .inl e1, a, ns, xs.length, 12, rfl, s1.seq hS, by decide, by decide, λd H2 kvs o hd s2 e2 hHV hND hkl hk8 => ?_⟩
 rw [hxl] at hHV
 refine ⟨p, xs, rfl, .inl (.of (s2 _ _ e1)), λl H3 hl3 s3 e3 x dx hx hdx hne => ?_⟩
 have old : ∀ b o, H3 b = some o -> upd (upd H3 dx (.own x)) x (.ins CT dx []) b = some o := λb o e => by rw [Ze (Zp e hx), Ze (Zp e hdx)]; exact e
 refine ⟨x, dx, l, xs, rs, rfl, upd_same, old _ _ e3, (hR.same (s2.trans s3)).keep λb ys e => old b _ e, hT, by omega, λr hr => (hn r hr).2, λH4 k4 hT4 _ => ⟨rfl, ?_⟩⟩
 have s34 : Same H3 H4 := λb o e => k4 b o (Zp e hx) (old b o e)
 clear old k4
 have s24 := s3.trans s34
 have s14 := s2.trans s24
 have s04 := s1.trans s14
 obtain ⟨ss, ess, hnd, hsl, hval⟩ := Zgc hHV hND
 obtain ⟨hf, hat⟩ := ZkX hval
 have hs12 : ss.length <= 12 := by omega
 have hkv : (kvs.map λkv => kV kv.1) = ss.map V.str := by
  have := congrArg (List.map kV) ess
  rw [Yv, Yv] at this
  exact this
 have hway : ∀ z ∈ ss, WayR rs (hf z) (wayL rs (hf z)) := λz hz => by
  have h := (hat [z] (λy hy => by rw [YB.mp hy]; exact hz)).2 0 z (hf z) rfl rfl
  obtain ⟨w, hw, _⟩ := Zb4 hT h.2
  rw [Za5 hw]
  exact hw
 refine ⟨a, ns, 6, rfl, s04.seq hS, p, d, _, xs, rs, o, kvs, ss, hf, rfl, s14 _ _ e1, hR.same s14, s24 _ _ e2, ess, hnd, hs12, hat, by omega, hT, hn, λb H5 svs qf B hb s5 e5 hSh hB0 hB1 hqd hpd htot hfair => ?_⟩
 have s15 := s14.trans s5
 have s25 := s24.trans s5
 have s05 := s04.trans s5
 refine ⟨a, ns, 7, rfl, s05.seq hS, ?_⟩
 generalize cellOf ns 7 = c
 obtain ⟨bn, hbn⟩ : ∃ bn : Nat, 1 + c / 72 % 6 = (bn : Int) := ⟨(1 + c / 72 % 6).toNat, by omega⟩
 have hbn0 : 0 < bn := by omega
 have hbn1 : bn <= 6 := by omega
 obtain ⟨a0, cs, hqa, ha0, hcs, hpc, hts⟩ := Zf2 (hf := hf) hB0 hB1 hbn0 hbn1 (by omega) hn hqd hpd htot
 have hB' : 0 < B * bn := VZ hB0 hbn0
 have hB2 : B * bn < 2 ^ 2600 := by
  refine Yz (VR hB1 hbn1) ?_
  rw [show (2600 : Nat) = 2400 + 200 from rfl, Vl]
  exact Nat.mul_lt_mul_of_pos_left (by decide) (VO _)
 have hfe : Rat.divInt (1 + c / 6 % 12) (1 + c / 72 % 6) = Zs (B * bn) ((1 + c / 6 % 12) * B) := by
  unfold Zs
  rw [hbn, YaF, Int.mul_comm (B : Int), V3 (by omega)]
 have hBm : (B : Int) <= 2 ^ 2530 := by
  have h1 : (2 : Nat) ^ 2400 <= 2 ^ 2530 := YU (by decide) (by decide)
  have e2 : ((2 ^ 2530 : Nat) : Int) = 2 ^ 2530 := by rw [YaE]; rfl
  omega
 have hlim : ∀ m : Int, -(2 ^ 40 * 2 ^ 2530) <= m -> m <= 2 ^ 40 * 2 ^ 2530 -> m.natAbs < 2 ^ 2600 := λm h1 h2 => by
  have e : ((2 ^ 40 * 2 ^ 2530 : Nat) : Int) = 2 ^ 40 * 2 ^ 2530 := by rw [YaF, YaE, YaE]; rfl
  have h3 : m.natAbs <= 2 ^ 40 * 2 ^ 2530 := by omega
  refine Yz h3 ?_
  rw [<- Vl]
  exact Nat.pow_lt_pow_right (by decide) (by decide)
 have hf0 : 0 < (1 + c / 6 % 12) * (B : Int) := Int.mul_pos (by omega) (by omega)
 have hf1 : (1 + c / 6 % 12) * (B : Int) <= 12 * 2 ^ 2530 := Int.mul_le_mul (by omega) hBm (by omega) (by decide)
 generalize (1 + c / 6 % 12) * (B : Int) = fi at hf0 hf1 hfe
 have hM0 : (0 : Int) <= 2 ^ 2530 := Int.pow_nonneg (by decide)
 generalize (2 : Int) ^ 2530 = M at hlim hBm hf1 ha0 hcs hM0
 have hSh5 : ShV H5 svs ss (λz => Zs (B * bn) (a0 z)) := ⟨hSh.1, λi z h => by
  obtain ⟨v, e, r⟩ := hSh.2 i z h
  rw [hqa z (Yq h)] at r
  exact ⟨v, e, r⟩⟩
 have h8 : ∀ z ∈ ss, z.length <= 8 := λz hz => by
  have h1 : (Sum.inr z : ZC) ∈ kvs.map (·.1) := by rw [ess]; exact V4 hz
  obtain ⟨kv, h2, h3⟩ := Yk.mp h1
  exact hk8 kv h2 z h3
 refine ⟨b, c, svs, ss, B * bn, a0, fi, rfl, e5, hSh5, hnd, hs12, h8, hB', hB2, hfe, hf0, hlim _ (by omega) (by omega), λz hz => ?_, λm H6 mvs ts a' hm s6 e6 hSm htn htl hmz hbad => ?_⟩
 ·have := ha0 z hz
  exact ⟨hlim _ (by omega) (by omega), hlim _ (by omega) (by omega), hlim _ (by omega) (by omega)⟩
 have hJ : ∀ (H' : Hp) (dd sd : Addr) (oo : Obj), Same H5 H' -> H' dd = some (.frz oo (.dK kvs)) -> Rd H' sd (.dK svs) -> Jd H' CT (.ref x) dd sd rs oo kvs svs ss hf (B * bn) a0 cs := λH' dd sd oo sH h1 h2 =>
  ⟨hT4.same (s5.trans sH), h1, ess, h2, hSh5.keep λb ys e => sH _ _ e, hnd, hs12, hat, by omega, hT, λr hr => (hn r hr).1, hB', hB2, λz hz => hlim _ (by have := ha0 z hz; omega) (by have := ha0 z hz; omega), λk => (hcs k).1, λk => hlim _ (by have := hcs k; omega) (by have := hcs k; omega), λk _ _ => hpc k, hts⟩
 have hNj : ∀ (H' : Hp) (dd sd : Addr) (oo : Obj), Same H6 H' -> H' dd = some (.frz oo (.dK kvs)) -> Rd H' sd (.dK mvs) -> Nj H' CT (.ref x) dd sd rs oo kvs mvs ss ts hf (B * bn) a' cs := λH' dd sd oo sH h1 h2 =>
  ⟨hT4.same (s5.trans (s6.trans sH)), h1, ess, h2, hSm.keep λb ys e => sH _ _ e, hs12, htl, hat, by omega, hT, λr hr => (hn r hr).1, hB', hB2, hmz, λk _ _ => hpc k, by
   rcases hbad with h | ⟨h1, h2⟩
   ·exact .inl h
   ·exact .inr ⟨h1, λks hk1 hk2 e => h2 (by rw [<- e, hts ks hk1 hk2])⟩⟩
 have hnov : ∀ G : List Str, G.Nodup -> (∀ z ∈ G, z ∈ ss) -> ¬ ZjV rs hf cs a0 G := λG hGn hGs hov => by
  classical
  have hnr : (List.range' 1 rs.length).Nodup := (List.pairwise_lt_range' (s := 1) (n := rs.length)).imp λh e => by rw [e] at h; exact YF _ h
  have hm : ∀ k, k ∈ (List.range' 1 rs.length).filter (λk => decide (Jl rs (G.map hf) k)) ↔ Jl rs (G.map hf) k := λk => by
   rw [Yt, VM, Ve]
   exact ⟨λh => h.2, λh => ⟨⟨(Z0 h).1, by have := (Z0 h).2; omega⟩, h⟩⟩
  have h1 := hov _ (hnr.filter _) hm
  have h2 := hfair G hGn hGs _ (hnr.filter _) hm
  rw [show G.map qf = G.map (λz => Zs (B * bn) (a0 z)) from YO λz hz => hqa z (hGs z hz), Za3 hB', show ∀ l : List Nat, l.map (Zl rs) = l.map (λk => Zs (B * bn) (cs k)) from λl => YO λk _ => hpc k, Za3 hB'] at h2
  have h3 := (ZaX hB').mpr h1
  exact absurd h2 (Rat.not_le.mpr h3)
 have s56 := s6
 have hd6 := (s25.trans s6) _ _ e2
 have eb6 := s6 _ _ e5
 refine ⟨d, kvs, rfl, .inr ⟨o, hd6⟩, λd1 od1 H13 hd1 s13 e13 => ?_⟩
 refine ⟨b, svs, rfl, .inl (s13 _ _ eb6), λb1 H14 hb1 s14' e14 => ?_⟩
 refine ⟨m, mvs, rfl, .inl ((s13.trans s14') _ _ e6), λm1 H14b hm1 s14b e14b => ?_⟩
 intro ht H15 hht s15' e15
 have s615 := s13.trans (s14'.trans (s14b.trans s15'))
 simp only [Zb3]
 walk_at "rd"
 refine ZcV (λi Z H' => ∃ o7 o8 : Option V, Z = [some (V.ref a), some (V.ref p), some (V.ref d), some (V.ref x), some (V.ref b), some (V.ref m), some (V.ref ht), o7, o8] /\ Same H15 H') ⟨_, _, rfl, λ_ _ z => z⟩ (λi Z Ha hi hP => ?_) (λZ Ha hP => ?_)
 ·obtain ⟨o7, o8, rfl, sa⟩ := hP
  have s6a := s615.trans sa
  have s5a := s6.trans s6a
  refine ZV λR0 hR0 => ?_
  refine JH λA0 hA0 C0 hC0 => ?_
  walk_at "rd"
  have e13' := (s14'.trans (s14b.trans s15')) _ _ e13
  have e14' := (s14b.trans s15') _ _ e14
  have e14c := s15' _ _ e14b
  refine ⟨_, sa _ _ e15, _, rfl, _, sa _ _ e15, _, rfl, .ref x, d1, b1, rs, od1, kvs, svs, ss, [], hf, B * bn, a0, cs, rfl, .inl ⟨hJ Ha d1 b1 od1 s5a (sa _ _ e13') (.inl (sa _ _ e14')), λHb sb => ?_⟩⟩
  have sab := sa.trans sb
  have s5b := s5a.trans sb
  dsimp only
  rw [if_neg (by simp)]
  refine ⟨_, sab _ _ e15, _, rfl, _, sab _ _ e15, _, rfl, .ref x, d1, b1, rs, od1, kvs, svs, ss, [], hf, B * bn, a0, cs, rfl, .inl ⟨hJ Hb d1 b1 od1 s5b (sab _ _ e13') (.inl (sab _ _ e14')), let ⟨t, ht⟩ := hTb; ⟨t, (s05.trans s5b) _ _ ht⟩, λr Hc g G _ _ _ _ _ hGn hGs hov => absurd hov (hnov G hGn hGs), λr Hc g tvs hg sc er eg => ?_⟩⟩
  refine ⟨r, rfl, _, er, _, rfl, rfl, ?_⟩
  rw [if_neg (by simp)]
  have sac := sab.trans sc
  have s6c := s6a.trans (sb.trans sc)
  subst hC0
  walk_at "rd"
  subst hR0
  try dsimp only
  simp only [ZlT]
  walk_at "rd"
  intro pt2 Hd hpt2 sd ed
  have sad := sac.trans sd
  refine Zoe (xs := [V.bl true, V.bl false]) (λi Z H' => (∃ o7 o8 : Option V, Z = [some (V.ref a), some (V.ref p), some (V.ref d), some (V.ref x), some (V.ref b), some (V.ref m), some (V.ref ht), o7, o8]) /\ Same H15 H' /\ H' pt2 = some (.tup [V.bl true, V.bl false])) ⟨⟨_, _, rfl⟩, sad, ed⟩ (λi Z H' _ ⟨_, _, e⟩ => .of e) (λi y Z He hi hP => ?_) (λZ He hP => ⟨hP.1, hP.2.1⟩)
  obtain ⟨⟨o7, o8, rfl⟩, se, ee⟩ := hP
  obtain ⟨bb, rfl⟩ : ∃ bb : Bool, y = V.bl bb := by
   have hm := Yq hi
   simp only [List.mem_cons, List.not_mem_nil, or_false] at hm
   rcases hm with rfl | rfl
   ·exact ⟨_, rfl⟩
   ·exact ⟨_, rfl⟩
  have s6e := s615.trans se
  walk_at "rd"
  refine ⟨_, se _ _ e15, _, rfl, _, se _ _ e15, _, rfl, .ref x, d1, m1, bb, rs, od1, kvs, mvs, ss, ts, hf, B * bn, a', cs, rfl, hNj He d1 m1 od1 s6e (se _ _ e13') (.inl (se _ _ e14c)), λHf sf => ⟨_, rfl, ?_⟩⟩
  rw [if_neg (by decide)]
  exact ⟨se.trans sf, sf _ _ ee⟩
 ·obtain ⟨o7, o8, rfl, sa⟩ := hP
  walk_at "rd"
  intro pv He hpv se ee
  have see := sa.trans se
  have s6e := s615.trans see
  refine ⟨5, .tup (n := 3) (see _ _ e15) ee rfl (λj x y h1 h2 => ?_), by decide, q _⟩
  match j, h1, h2 with
  | 0, h1, h2 => cases h1; cases h2; exact ZhC (.inr ⟨od1, (s14'.trans (s14b.trans (s15'.trans see))) _ _ e13⟩) (.inr ⟨o, s6e _ _ hd6⟩) hND hHV
  | 1, h1, h2 => cases h1; cases h2; exact ZdZ (.inl ((s14b.trans (s15'.trans see)) _ _ e14)) (.inl (s6e _ _ eb6)) hnd (hSh5.keep λb ys e => (s6.trans s6e) _ _ e)
  | 2, h1, h2 => cases h1; cases h2; exact ZdZ (.inl ((s15'.trans see) _ _ e14b)) (.inl (s6e _ _ e6)) htn (hSm.keep λb ys e => s6e _ _ e)
end
def ZrZ {Pr : List Value -> Prop} (us : List Value) (h : us.length = 1) (k : ∀ a, Pr [a]) : Pr us := by
 match us, h with
 | [a], _ => exact k a
def Zms {Pr : List Value -> Prop} (us : List Value) (h : us.length = 2) (k : ∀ a b, Pr [a, b]) : Pr us := by
 match us, h with
 | [a, b], _ => exact k a b
def ZrC {Pr : List Value -> Prop} (us : List Value) (h : us.length = 3) (k : ∀ a b c, Pr [a, b, c]) : Pr us := by
 match us, h with
 | [a, b, c], _ => exact k a b c
def ZrM {Pr : List Value -> Prop} (us : List Value) (h : us.length = 4) (k : ∀ a b c d, Pr [a, b, c, d]) : Pr us := by
 match us, h with
 | [a, b, c, d], _ => exact k a b c d
def ZpQ {P : Program} {w : World} {K : PySem.W.Frag} {mg : Str -> Option Value} {base h : Heap} {k : Nat} {x : Str} {ps : List Str} {sp : Sp} {f : Addr} {fd : FuncData} (X : K.In h) (G : h.Ns mainGlobals mg) (a : nsIn K mainGlobals x = some (some (.ref f)))
  (kp : keepIn K (.ref f) = true) (b : Binds K fd ps []) (o : FnOk P w K mg base Zx k f fd ps sp) : Fn P w K mg base Zx k x ps sp := ⟨f, fd, o, b, kp, mg_of X G a⟩
structure DefIn (K : PySem.W.Frag) (x : Str) (st : Stmt) (f : Addr) (fd : FuncData) : Prop where
 a : nsIn K mainGlobals x = some (some (.ref f))
 k : keepIn K (.ref f) = true
 u : Fun K x x st f fd
theorem Zpp {K : PySem.W.Frag} {x : Str} {st : Stmt} {f : Addr} {oc : Value} {od an : Option Addr} {osl : Array (Option Value)} {kV doc pm cdv ct : Value} (a : nsIn K mainGlobals x = some (some (.ref f))) (l : K.lookup f = some ⟨oc, od, .func (fnOf x x (Zt st) (Zq st) (Zb st) .none kV doc pm an cdv ct), osl⟩) (c : codeIn K cdv x = true) (k : keepIn K (.ref f) = true) : DefIn K x st f (fnOf x x (Zt st) (Zq st) (Zb st) .none kV doc pm an cdv ct) := ⟨a, k, ZbH l c k⟩
def Zp2 {P : Program} {w : World} {K : PySem.W.Frag} {mg : Str -> Option Value} {base h : Heap} {k : Nat} {x : Str} {ps : List Str} {sp : Sp} {f : Addr} {fd : FuncData} {st : Stmt} (X : K.In h) (G : h.Ns mainGlobals mg) (z : DefIn K x st f fd) (b : Binds K fd ps []) (o : FnOk P w K mg base Zx k f fd ps sp) : Fn P w K mg base Zx k x ps sp := ZpQ X G z.a z.k b o
def bn1 {fd : FuncData} {ps : List Str} (h : ∀ a : Value, bindArgs fd ⟨[a], []⟩ = pure (List.zip ps [a])) : ∀ us : List Value, us.length = 1 -> bindArgs fd ⟨us, []⟩ = pure (List.zip ps us) := λus hl => ZrZ (Pr := λus => bindArgs fd ⟨us, []⟩ = pure (List.zip ps us)) us hl h
def bn2 {fd : FuncData} {ps : List Str} (h : ∀ a b : Value, bindArgs fd ⟨[a, b], []⟩ = pure (List.zip ps [a, b])) : ∀ us : List Value, us.length = 2 -> bindArgs fd ⟨us, []⟩ = pure (List.zip ps us) := λus hl => Zms (Pr := λus => bindArgs fd ⟨us, []⟩ = pure (List.zip ps us)) us hl h
def bn3 {fd : FuncData} {ps : List Str} (h : ∀ a b c : Value, bindArgs fd ⟨[a, b, c], []⟩ = pure (List.zip ps [a, b, c])) : ∀ us : List Value, us.length = 3 -> bindArgs fd ⟨us, []⟩ = pure (List.zip ps us) := λus hl => ZrC (Pr := λus => bindArgs fd ⟨us, []⟩ = pure (List.zip ps us)) us hl h
def bn4 {fd : FuncData} {ps : List Str} (h : ∀ a b c d : Value, bindArgs fd ⟨[a, b, c, d], []⟩ = pure (List.zip ps [a, b, c, d])) : ∀ us : List Value, us.length = 4 -> bindArgs fd ⟨us, []⟩ = pure (List.zip ps us) := λus hl => ZrM (Pr := λus => bindArgs fd ⟨us, []⟩ = pure (List.zip ps us)) us hl h
def Zpu {l : PySem.W.OpenLaw} {w : World} {K : PySem.W.Frag} {h : Heap} {mg : Str -> Option Value} {fa : Addr} {f0 f1 f2 f6 f7 f8 f9 f10 f11 f13 f14 f23 f24 f25 f26 f27 f28 f29 f30 f31 f32 f33 f62 f63 f64 f65 f66 f69 f70 f71 f72 f74 : Addr} {e0 e1 e2 e6 e7 e8 e9 e10 e11 e13 e14 e23 e24 e25 e26 e27 e28 e29 e30 e31 e32 e33 e62 e63 e64 e65 e66 e69 e70 e71 e72 e74 : FuncData} {f3 : Addr} {od3 an3 : Option Addr} {sl3 : Array (Option Value)} {oc3 kV3 dc3 pm3 cd3 ct3 : Value} {T3 tn3 : Nat} {tc3 : Value} {td3 : Option Addr} {ts3 : Array (Option Value)} {tk3_0 : Tok} {tk_MOST_ROADS : Tok} {cTree : Addr} {f16 : Addr} {od16 an16 : Option Addr} {sl16 : Array (Option Value)} {oc16 kV16 dc16 pm16 cd16 ct16 : Value} {f17 : Addr} {od17 an17 : Option Addr} {sl17 : Array (Option Value)} {oc17 kV17 dc17 pm17 cd17 ct17 : Value} {f18 : Addr} {od18 an18 : Option Addr} {sl18 : Array (Option Value)} {oc18 kV18 dc18 pm18 cd18 ct18 : Value} {f19 : Addr} {od19 an19 : Option Addr} {sl19 : Array (Option Value)} {oc19 kV19 dc19 pm19 cd19 ct19 : Value} {f20 : Addr} {od20 an20 : Option Addr} {sl20 : Array (Option Value)} {oc20 kV20 dc20 pm20 cd20 ct20 : Value} {f21 : Addr} {od21 an21 : Option Addr} {sl21 : Array (Option Value)} {oc21 kV21 dc21 pm21 cd21 ct21 : Value} {f22 : Addr} {od22 an22 : Option Addr} {sl22 : Array (Option Value)} {oc22 kV22 dc22 pm22 cd22 ct22 : Value} {cSE : Addr} {cNF : Addr} {cNN : Addr} {cNP : Addr} {cNR : Addr} {cTM : Addr} {cNS : Addr} {clsd : ClassData} {f61 : Addr} {od61 an61 : Option Addr} {sl61 : Array (Option Value)} {oc61 kV61 dc61 pm61 cd61 ct61 : Value} {cc61 : Addr} {f67 : Addr} {od67 an67 : Option Addr} {sl67 : Array (Option Value)} {oc67 kV67 dc67 pm67 cd67 ct67 : Value} {f68 : Addr} {od68 an68 : Option Addr} {sl68 : Array (Option Value)} {oc68 kV68 dc68 pm68 cd68 ct68 : Value} {f73 : Addr} {od73 an73 : Option Addr} {sl73 : Array (Option Value)} {oc73 kV73 dc73 pm73 cd73 ct73 : Value} {f75 : Addr} {od75 an75 : Option Addr} {sl75 : Array (Option Value)} {oc75 kV75 dc75 pm75 cd75 ct75 : Value}
  (X : K.In h) (G : h.Ns mainGlobals mg) (hfa : mg "law" = some (.ref fa))
  (z0 : DefIn K "is_whole" Zcu f0 e0)
  (z1 : DefIn K "greatest_divisor" Zau f1 e1)
  (z2 : DefIn K "is_ratio" Zca f2 e2)
  (a3 : nsIn K mainGlobals "ratio" = some (some (.ref f3)))
  (l3 : K.lookup f3 = some ⟨oc3, od3, .func (fnOf "ratio" "ratio" (Zt Ji) (Zq Ji) (Zb Ji) (.ref T3) kV3 dc3 pm3 an3 cd3 ct3), sl3⟩)
  (c3 : codeIn K cd3 "ratio" = true)
  (k3 : keepIn K (.ref f3) = true)
  (t3 : K.lookup T3 = some ⟨tc3, td3, .seq #[.int 1 tk3_0] tn3, ts3⟩)
  (z6 : DefIn K "least_multiple" ZaB f6 e6)
  (z7 : DefIn K "common_bottom" ZaH f7 e7)
  (z8 : DefIn K "top_over" Zcs f8 e8)
  (z9 : DefIn K "total_of" Zce f9 e9)
  (z10 : DefIn K "is_price" Zck f10 e10)
  (z11 : DefIn K "is_road" Zdz f11 e11)
  (a_MOST_ROADS : nsIn K mainGlobals "MOST_ROADS" = some (some (.int 40 tk_MOST_ROADS)))
  (z13 : DefIn K "look_roads" Zbm f13 e13)
  (z14 : DefIn K "way_from" Zcb f14 e14)
  (a_Tree : nsIn K mainGlobals "Tree" = some (some (.ref cTree)))
  (pg_Tree : plainGet K cTree Str.empty = true)
  (hd_Tree : hasDictIn K cTree = true)
  (po_Tree : plainOver K cTree = true)
  (sa_Tree : PySem.W.findIn K (.ref cTree) "__setattr__" = some (some (.builtin "object.__setattr__")))
  (ZaN : PySem.W.findIn K (.ref cTree) "lanes" = some none)
  (Jb : PySem.W.findIn K (.ref cTree) "ways" = some none)
  (a16 : PySem.W.findIn K (.ref cTree) "__init__" = some (some (.ref f16)))
  (l16 : K.lookup f16 = some ⟨oc16, od16, .func (fnOf "__init__" "Tree.__init__" (Zt Zad) (Zq Zad) (Zb Zad) .none kV16 dc16 pm16 an16 cd16 ct16), sl16⟩)
  (c16 : codeIn K cd16 "Tree.__init__" = true)
  (k16 : keepIn K (.ref f16) = true)
  (i16 : isFn K (.ref f16) = true)
  (mk16 : makesIn K cTree = true)
  (kc16 : keepIn K (.ref cTree) = true)
  (a17 : PySem.W.findIn K (.ref cTree) "many" = some (some (.ref f17)))
  (l17 : K.lookup f17 = some ⟨oc17, od17, .func (fnOf "many" "Tree.many" (Zt Zan) (Zq Zan) (Zb Zan) .none kV17 dc17 pm17 an17 cd17 ct17), sl17⟩)
  (c17 : codeIn K cd17 "Tree.many" = true)
  (k17 : keepIn K (.ref f17) = true)
  (i17 : isFn K (.ref f17) = true)
  (a18 : PySem.W.findIn K (.ref cTree) "look_crossing" = some (some (.ref f18)))
  (l18 : K.lookup f18 = some ⟨oc18, od18, .func (fnOf "look_crossing" "Tree.look_crossing" (Zt Zaa) (Zq Zaa) (Zb Zaa) .none kV18 dc18 pm18 an18 cd18 ct18), sl18⟩)
  (c18 : codeIn K cd18 "Tree.look_crossing" = true)
  (k18 : keepIn K (.ref f18) = true)
  (i18 : isFn K (.ref f18) = true)
  (a19 : PySem.W.findIn K (.ref cTree) "look_road" = some (some (.ref f19)))
  (l19 : K.lookup f19 = some ⟨oc19, od19, .func (fnOf "look_road" "Tree.look_road" (Zt Zac) (Zq Zac) (Zb Zac) .none kV19 dc19 pm19 an19 cd19 ct19), sl19⟩)
  (c19 : codeIn K cd19 "Tree.look_road" = true)
  (k19 : keepIn K (.ref f19) = true)
  (i19 : isFn K (.ref f19) = true)
  (a20 : PySem.W.findIn K (.ref cTree) "way" = some (some (.ref f20)))
  (l20 : K.lookup f20 = some ⟨oc20, od20, .func (fnOf "way" "Tree.way" (Zt Zap) (Zq Zap) (Zb Zap) .none kV20 dc20 pm20 an20 cd20 ct20), sl20⟩)
  (c20 : codeIn K cd20 "Tree.way" = true)
  (k20 : keepIn K (.ref f20) = true)
  (i20 : isFn K (.ref f20) = true)
  (a21 : PySem.W.findIn K (.ref cTree) "beneath" = some (some (.ref f21)))
  (l21 : K.lookup f21 = some ⟨oc21, od21, .func (fnOf "beneath" "Tree.beneath" (Zt Zae) (Zq Zae) (Zb Zae) .none kV21 dc21 pm21 an21 cd21 ct21), sl21⟩)
  (c21 : codeIn K cd21 "Tree.beneath" = true)
  (k21 : keepIn K (.ref f21) = true)
  (i21 : isFn K (.ref f21) = true)
  (a22 : PySem.W.findIn K (.ref cTree) "price" = some (some (.ref f22)))
  (l22 : K.lookup f22 = some ⟨oc22, od22, .func (fnOf "price" "Tree.price" (Zt Zaj) (Zq Zaj) (Zb Zaj) .none kV22 dc22 pm22 an22 cd22 ct22), sl22⟩)
  (c22 : codeIn K cd22 "Tree.price" = true)
  (k22 : keepIn K (.ref f22) = true)
  (i22 : isFn K (.ref f22) = true)
  (z23 : DefIn K "rest_of" ZdI f23 e23)
  (z24 : DefIn K "needed" ZeU f24 e24)
  (z25 : DefIn K "cost" Zjy f25 e25)
  (z26 : DefIn K "_law_cell_at" Zbc f26 e26)
  (z27 : DefIn K "_law_mixed" ZbS f27 e27)
  (z28 : DefIn K "_law_numbers" Zbg f28 e28)
  (z29 : DefIn K "_law_low" Zdm f29 e29)
  (z30 : DefIn K "_law_price_by" ZaW f30 e30)
  (z31 : DefIn K "_law_roads_by" Zal f31 e31)
  (z32 : DefIn K "_law_names_by" ZaT f32 e32)
  (z33 : DefIn K "_law_homes_by" ZaV f33 e33)
  (a_ShareError : nsIn K mainGlobals "ShareError" = some (some (.ref cSE)))
  (a_NoFraction : nsIn K mainGlobals "NoFraction" = some (some (.ref cNF)))
  (a_NoName : nsIn K mainGlobals "NoName" = some (some (.ref cNN)))
  (a_NoPlace : nsIn K mainGlobals "NoPlace" = some (some (.ref cNP)))
  (a_NoPrice : nsIn K mainGlobals "NoPrice" = some (some (.ref cNR)))
  (a_TooMany : nsIn K mainGlobals "TooMany" = some (some (.ref cTM)))
  (a_NoSharing : nsIn K mainGlobals "NoSharing" = some (some (.ref cNS)))
  (ec0 : excIn K cNS [.type "ValueError", .type "Exception", .type "BaseException", .type "object"] "ValueError.__new__" = true)
  (x0 : PySem.W.clsIn K cNS = some clsd)
  (x1 : PySem.W.findIn K (.ref cNS) "__getattribute__" = some (some (.builtin "BaseException.__getattribute__")))
  (x2 : PySem.W.findIn K (.ref cNS) "__getattr__" = some none)
  (x3 : PySem.W.findIn K (.ref cNS) "__class__" = some (some (.builtin "object.__class__")))
  (x4 : PySem.W.specialIn K (.builtin "object.__class__") "__get__" = some (some (.builtin "getset_descriptor.__get__")))
  (x5 : PySem.W.takesIn K (.builtin "object.__class__") = some true)
  (x6 : PySem.W.mroIn K cNS (.type "object") = some true)
  (x7 : PySem.W.mroIn K cNS (.type "BaseException") = some true)
  (u1 : exmOne K (.ref cNS) (.ref cSE) = some true)
  (v1 : kitOne K (.ref cNS) (.ref cNF) = some false)
  (v2 : kitOne K (.ref cNS) (.ref cNN) = some false)
  (v3 : kitOne K (.ref cNS) (.ref cNP) = some false)
  (v4 : kitOne K (.ref cNS) (.ref cNR) = some false)
  (v5 : kitOne K (.ref cNS) (.ref cTM) = some false)
  (v6 : kitOne K (.ref cNS) (.ref cNS) = some true)
  (v7 : kitOne K (.ref cNS) (.type "ValueError") = some true)
  (a61 : nsIn K mainGlobals "far_roads_first" = some (some (.ref f61)))
  (l61 : K.lookup f61 = some ⟨oc61, od61, .func (fnOf "far_roads_first" "far_roads_first" (Zt Zah) (Zq Zah) (Zb Zah) .none kV61 dc61 pm61 an61 cd61 ct61), sl61⟩)
  (c61 : codeIn K cd61 "far_roads_first" = true)
  (k61 : keepIn K (.ref f61) = true)
  (hcd61 : cd61 = .ref cc61)
  (hC61 : codeHdIn K cc61 196 = true)
  (z62 : DefIn K "is_less" Zc7 f62 e62)
  (z63 : DefIn K "cost_of_all" Zbh f63 e63)
  (z64 : DefIn K "users" ZfK f64 e64)
  (z65 : DefIn K "others" Zeg f65 e65)
  (z66 : DefIn K "payments" Zci f66 e66)
  (a67 : nsIn K mainGlobals "look_sharing" = some (some (.ref f67)))
  (l67 : K.lookup f67 = some ⟨oc67, od67, .func (fnOf "look_sharing" "look_sharing" (Zt Zaf) (Zq Zaf) (Zb Zaf) .none kV67 dc67 pm67 an67 cd67 ct67), sl67⟩)
  (c67 : codeIn K cd67 "look_sharing" = true)
  (k67 : keepIn K (.ref f67) = true)
  (a68 : nsIn K mainGlobals "judged" = some (some (.ref f68)))
  (l68 : K.lookup f68 = some ⟨oc68, od68, .func (fnOf "judged" "judged" (Zt ZaD) (Zq ZaD) (Zb ZaD) .none kV68 dc68 pm68 an68 cd68 ct68), sl68⟩)
  (c68 : codeIn K cd68 "judged" = true)
  (k68 : keepIn K (.ref f68) = true)
  (z69 : DefIn K "_law_way" Zdc f69 e69)
  (z70 : DefIn K "_law_add" Zdb f70 e70)
  (z71 : DefIn K "_law_shared_by" ZaI f71 e71)
  (z72 : DefIn K "_law_spoilt" Zbu f72 e72)
  (a73 : nsIn K mainGlobals "_law_looked" = some (some (.ref f73)))
  (l73 : K.lookup f73 = some ⟨oc73, od73, .func (fnOf "_law_looked" "_law_looked" (Zt Zai) (Zq Zai) (Zb Zai) .none kV73 dc73 pm73 an73 cd73 ct73), sl73⟩)
  (c73 : codeIn K cd73 "_law_looked" = true)
  (k73 : keepIn K (.ref f73) = true)
  (z74 : DefIn K "_law_refused" Za9 f74 e74)
  (a75 : nsIn K mainGlobals "law" = some (some (.ref f75)))
  (l75 : K.lookup f75 = some ⟨oc75, od75, .func (fnOf "law" "law" (Zt Zeo) (Zq Zeo) (Zb Zeo) .none kV75 dc75 pm75 an75 cd75 ct75), sl75⟩)
  (c75 : codeIn K cd75 "law" = true)
  (k75 : keepIn K (.ref f75) = true)
  (Zbn : nsIn K mainGlobals "isinstance" = some none)
  (Znv : nsIn K mainGlobals "int" = some none)
  (Zjw : nsIn K mainGlobals "bool" = some none)
  (Zn1 : nsIn K mainGlobals "abs" = some none)
  (Zf1 : nsIn K mainGlobals "tuple" = some none)
  (Zop : nsIn K mainGlobals "len" = some none)
  (Zot : nsIn K mainGlobals "sum" = some none)
  (Zi9 : nsIn K mainGlobals "list" = some none)
  (Zgd : nsIn K mainGlobals "range" = some none)
  (ZeR : nsIn K mainGlobals "sorted" = some none)
  (ZoJ : nsIn K mainGlobals "set" = some none)
  (ZbO : nsIn K mainGlobals "enumerate" = some none)
  (Zog : nsIn K mainGlobals "min" = some none)
  (Zns : nsIn K mainGlobals "zip" = some none)
  (ZjJ : nsIn K mainGlobals "dict" = some none)
  (Znf : nsIn K mainGlobals "max" = some none)
  (Zbw : nsIn K mainGlobals "ValueError" = some none)
  : ∃ fd : FuncData, (∀ (s : Shared) (v : Value), BindsTo s fd ⟨[v], []⟩ [("_law_script", v)]) /\ ∀ base : Heap, K.In base -> base.Ns mainGlobals mg -> L2.Zde mg base -> FnOk l.prog w K mg base Zx 12 fa fd ["_law_script"] (Zkl 196 K) := by
 have e := hfa.symm.trans (mg_of X G a75)
 cases e
 have Zbt := mg_none_of X G Zbw
 have Zn2 := mg_none_of X G Znf
 have JD := mg_none_of X G ZjJ
 have ZhF := mg_none_of X G Zns
 have Zm6 := mg_none_of X G Zog
 have Za4 := mg_none_of X G ZbO
 have Zho := mg_none_of X G ZoJ
 have ZT := mg_none_of X G ZeR
 have ZK := mg_none_of X G Zgd
 have ZH := mg_none_of X G Zi9
 have ZfR := mg_none_of X G Zot
 have ZA := mg_none_of X G Zop
 have Zcg := mg_none_of X G Zf1
 have Zgg := mg_none_of X G Zn1
 have ZjN := mg_none_of X G Zjw
 have Zht := mg_none_of X G Znv
 have Zk := mg_none_of X G Zbn
 have U3 := Zel (st := Ji) l3 c3 k3
 have b3 : Binds K (fnOf "ratio" "ratio" (Zt Ji) (Zq Ji) (Zb Ji) (.ref T3) kV3 dc3 pm3 an3 cd3 ct3) ["top", "bottom"] [] := λs us Y hl => match us, hl with | [_, _], _ => BindsTo.of_defaults (T := T3) rfl (Y _ _ t3) rfl rfl rfl
 have b3_1 : Binds K (fnOf "ratio" "ratio" (Zt Ji) (Zq Ji) (Zb Ji) (.ref T3) kV3 dc3 pm3 an3 cd3 ct3) ["top", "bottom"] [.int 1 tk3_0] := λs us Y hl => by
  have hl2 : us.length = 1 := by simpa using hl
  exact match us, hl2 with | [_], _ => BindsTo.of_defaults (T := T3) rfl (Y _ _ t3) rfl rfl rfl
 have g_MOST_ROADS := mg_of X G a_MOST_ROADS
 have Zqo := mg_of X G a_Tree
 have Zz : Cls K cTree := ⟨pg_Tree, hd_Tree, po_Tree, sa_Tree⟩
 have U16 := ZbH (st := Zad) l16 c16 k16
 have b16 : Binds K (fnOf "__init__" "Tree.__init__" (Zt Zad) (Zq Zad) (Zb Zad) .none kV16 dc16 pm16 an16 cd16 ct16) ["self", "roads"] [] := Binds.all λus hl => Zms (Pr := λus => bindArgs _ ⟨us, []⟩ = pure (List.zip _ us)) us hl λ_ _ => rfl
 have U17 := ZbH (st := Zan) l17 c17 k17
 have b17 : Binds K (fnOf "many" "Tree.many" (Zt Zan) (Zq Zan) (Zb Zan) .none kV17 dc17 pm17 an17 cd17 ct17) ["self"] [] := Binds.all λus hl => ZrZ (Pr := λus => bindArgs _ ⟨us, []⟩ = pure (List.zip _ us)) us hl λ_ => rfl
 have U18 := ZbH (st := Zaa) l18 c18 k18
 have b18 : Binds K (fnOf "look_crossing" "Tree.look_crossing" (Zt Zaa) (Zq Zaa) (Zb Zaa) .none kV18 dc18 pm18 an18 cd18 ct18) ["self", "k"] [] := Binds.all λus hl => Zms (Pr := λus => bindArgs _ ⟨us, []⟩ = pure (List.zip _ us)) us hl λ_ _ => rfl
 have U19 := ZbH (st := Zac) l19 c19 k19
 have b19 : Binds K (fnOf "look_road" "Tree.look_road" (Zt Zac) (Zq Zac) (Zb Zac) .none kV19 dc19 pm19 an19 cd19 ct19) ["self", "k"] [] := Binds.all λus hl => Zms (Pr := λus => bindArgs _ ⟨us, []⟩ = pure (List.zip _ us)) us hl λ_ _ => rfl
 have U20 := ZbH (st := Zap) l20 c20 k20
 have b20 : Binds K (fnOf "way" "Tree.way" (Zt Zap) (Zq Zap) (Zb Zap) .none kV20 dc20 pm20 an20 cd20 ct20) ["self", "k"] [] := Binds.all λus hl => Zms (Pr := λus => bindArgs _ ⟨us, []⟩ = pure (List.zip _ us)) us hl λ_ _ => rfl
 have U21 := ZbH (st := Zae) l21 c21 k21
 have b21 : Binds K (fnOf "beneath" "Tree.beneath" (Zt Zae) (Zq Zae) (Zb Zae) .none kV21 dc21 pm21 an21 cd21 ct21) ["self", "k"] [] := Binds.all λus hl => Zms (Pr := λus => bindArgs _ ⟨us, []⟩ = pure (List.zip _ us)) us hl λ_ _ => rfl
 have U22 := ZbH (st := Zaj) l22 c22 k22
 have b22 : Binds K (fnOf "price" "Tree.price" (Zt Zaj) (Zq Zaj) (Zb Zaj) .none kV22 dc22 pm22 an22 cd22 ct22) ["self", "k"] [] := Binds.all λus hl => Zms (Pr := λus => bindArgs _ ⟨us, []⟩ = pure (List.zip _ us)) us hl λ_ _ => rfl
 have Zbq := mg_of X G a_ShareError
 have Zbv := mg_of X G a_NoFraction
 have Zen := mg_of X G a_NoName
 have ZcZ := mg_of X G a_NoPlace
 have Zc0 := mg_of X G a_NoPrice
 have ZdC := mg_of X G a_TooMany
 have Zas := mg_of X G a_NoSharing
 have xk : ExcK K cNS := ⟨by rw [x0]; rfl, x1, x2, x3, x4, x5, x6, x7⟩
 have ec : ZoR K cNS := ec0
 have U61 := ZbH (st := Zah) l61 c61 k61
 have b61 := U61.binds (ps := ["tree", "homes"]) λ_ _ _ _ _ _ us hl => Zms (Pr := λus => bindArgs _ ⟨us, []⟩ = pure (List.zip _ us)) us hl λ_ _ => rfl
 have U67 := Zel (st := Zaf) l67 c67 k67
 have b67 : Binds K (fnOf "look_sharing" "look_sharing" (Zt Zaf) (Zq Zaf) (Zb Zaf) .none kV67 dc67 pm67 an67 cd67 ct67) ["tree", "homes", "sharing"] [] := Binds.all λus hl => ZrC (Pr := λus => bindArgs _ ⟨us, []⟩ = pure (List.zip _ us)) us hl λ_ _ _ => rfl
 have U68 := Zel (st := ZaD) l68 c68 k68
 have b68 : Binds K (fnOf "judged" "judged" (Zt ZaD) (Zq ZaD) (Zb ZaD) .none kV68 dc68 pm68 an68 cd68 ct68) ["tree", "homes", "sharing"] [] := Binds.all λus hl => ZrC (Pr := λus => bindArgs _ ⟨us, []⟩ = pure (List.zip _ us)) us hl λ_ _ _ => rfl
 have U73 := Zel (st := Zai) l73 c73 k73
 have b73 : Binds K (fnOf "_law_looked" "_law_looked" (Zt Zai) (Zq Zai) (Zb Zai) .none kV73 dc73 pm73 an73 cd73 ct73) ["_law_tree", "_law_homes", "_law_sharing", "_law_whole"] [] := Binds.all λus hl => ZrM (Pr := λus => bindArgs _ ⟨us, []⟩ = pure (List.zip _ us)) us hl λ_ _ _ _ => rfl
 have U75 := ZbH (st := Zeo) l75 c75 k75
 refine ⟨fnOf "law" "law" (Zt Zeo) (Zq Zeo) (Zb Zeo) .none kV75 dc75 pm75 an75 cd75 ct75, λs v => .of_eq rfl, λbase _ _ hB => ?_⟩
 have dF : ∀ {k : Nat} {x : Str} {ps : List Str} {sp : Sp} {f : Addr} {fd : FuncData} {st : Stmt}, DefIn K x st f fd -> Binds K fd ps [] -> FnOk l.prog w K mg base Zx k f fd ps sp -> Fn l.prog w K mg base Zx k x ps sp := λz b o => Zp2 X G z b o
 have ZJ := dF z0 (z0.u.binds (ps := ["thing"]) λ_ _ _ _ _ _ => bn1 λ_ => rfl) (Zgr z0.u Zk Zht ZjN)
 have Zab := dF z1 (z1.u.binds (ps := ["one", "other"]) λ_ _ _ _ _ _ => bn2 λ_ _ => rfl) (Zqv z1.u Zgg)
 have Zcl := dF z2 (z2.u.binds (ps := ["thing"]) λ_ _ _ _ _ _ => bn1 λ_ => rfl) (ZfE z2.u Zk Zcg ZA ZJ Zab)
 have Zj3 := My.Zmf (P := l.prog) (w := w) (base := base) U3 ZJ Zab
 have Zc9 : Fn l.prog w K mg base Zx _ "ratio" ["top", "bottom"] _ := ⟨f3, _, Zj3, b3, k3, mg_of X G a3⟩
 have Zg3 := Zc9
 have Zdu : FnD l.prog w K mg base Zx _ "ratio" ["top", "bottom"] [.int 1] _ := ⟨_, _, _, Zj3, b3_1, .cons ⟨_, rfl⟩ .nil, k3, mg_of X G a3⟩
 have ZaA := dF z6 (z6.u.binds (ps := ["one", "other"]) λ_ _ _ _ _ _ => bn2 λ_ _ => rfl) (Zpz z6.u Zab)
 have ZaM := dF z7 (z7.u.binds (ps := ["some"]) λ_ _ _ _ _ _ => bn1 λ_ => rfl) (Zjo z7.u ZaA)
 have Zcp := dF z8 (z8.u.binds (ps := ["one", "bottom"]) λ_ _ _ _ _ _ => bn2 λ_ _ => rfl) (Zqy z8.u )
 have Zao := dF z9 (z9.u.binds (ps := ["some"]) λ_ _ _ _ _ _ => bn1 λ_ => rfl) (ZlV z9.u ZfR ZaM Zcp Zg3)
 have Zcd := dF z10 (z10.u.binds (ps := ["thing"]) λ_ _ _ _ _ _ => bn1 λ_ => rfl) (ZfN z10.u Zcl)
 have ZdH := dF z11 (z11.u.binds (ps := ["thing", "many"]) λ_ _ _ _ _ _ => bn2 λ_ _ => rfl) (Zid z11.u Zk Zcg ZA ZJ Zcd)
 have Zbs := dF z13 (z13.u.binds (ps := ["thing"]) λ_ _ _ _ _ _ => bn1 λ_ => rfl) (Zn8 z13.u Zk ZH ZA g_MOST_ROADS ZdH)
 have Zcn := dF z14 (z14.u.binds (ps := ["roads", "k"]) λ_ _ _ _ _ _ => bn2 λ_ _ => rfl) (Znu z14.u ZA)
 have Zc6 := My.Zn3 (P := l.prog) (w := w) (base := base) U16 ZH ZA ZK Zz ZaN Jb Zbs Zcn
 have Zi4 : Mkr l.prog w K mg base Zx _ cTree "Tree" ["self", "roads"] _ := ⟨f16, _, Zc6, b16, ⟨mk16, a16, i16, kc16⟩, Zqo⟩
 have Zgl := My.ZnE (P := l.prog) (w := w) (base := base) U17 ZA Zz Jb
 have ZdX : Mth l.prog w K mg base Zx _ cTree "many" ["self"] _ := ⟨f17, _, Zgl, b17, ⟨a17, i17, k17⟩, Zz⟩
 have ZbE := My.Zkx (P := l.prog) (w := w) (base := base) U18 (CNP := 0) ZJ ZdX
 have Zam : Mth l.prog w K mg base Zx _ cTree "look_crossing" ["self", "k"] _ := ⟨f18, _, ZbE, b18, ⟨a18, i18, k18⟩, Zz⟩
 have ZcG := My.ZlU (P := l.prog) (w := w) (base := base) U19 Zam
 have Zay : Mth l.prog w K mg base Zx _ cTree "look_road" ["self", "k"] _ := ⟨f19, _, ZcG, b19, ⟨a19, i19, k19⟩, Zz⟩
 have Zhk := My.Znx (P := l.prog) (w := w) (base := base) U20 ZH Zz Jb Zam
 have Zhe : Mth l.prog w K mg base Zx _ cTree "way" ["self", "k"] _ := ⟨f20, _, Zhk, b20, ⟨a20, i20, k20⟩, Zz⟩
 have ZdT := My.ZnL (P := l.prog) (w := w) (base := base) U21 ZK Zz Jb ZdX Zay
 have Zdy : Mth l.prog w K mg base Zx _ cTree "beneath" ["self", "k"] _ := ⟨f21, _, ZdT, b21, ⟨a21, i21, k21⟩, Zz⟩
 have Zfa := My.Zit (P := l.prog) (w := w) (base := base) U22 Zz ZaN Zay
 have ZbM : Mth l.prog w K mg base Zx _ cTree "price" ["self", "k"] _ := ⟨f22, _, Zfa, b22, ⟨a22, i22, k22⟩, Zz⟩
 have Za0 := dF z23 (z23.u.binds (ps := ["one", "other"]) λ_ _ _ _ _ _ => bn2 λ_ _ => rfl) (Zlg z23.u Zg3)
 have ZbC := dF z24 (z24.u.binds (ps := ["tree", "homes", "group"]) λ_ _ _ _ _ _ => bn3 λ_ _ _ => rfl) (ZiW z24.u ZT Zho Zhe)
 have Ziw := dF z25 (z25.u.binds (ps := ["tree", "homes", "group"]) λ_ _ _ _ _ _ => bn3 λ_ _ _ => rfl) (Zny z25.u Zao ZbC ZbM)
 have Zv := dF z26 (z26.u.binds (ps := ["_law_script", "_law_k"]) λ_ _ _ _ _ _ => bn2 λ_ _ => rfl) (Znp z26.u ZA)
 have ZbT := dF z27 (z27.u.binds (ps := ["_law_cell", "_law_k"]) λ_ _ _ _ _ _ => bn2 λ_ _ => rfl) (ZkH z27.u )
 have ZE := dF z28 (z28.u.binds (ps := ["_law_cell", "_law_many", "_law_most"]) λ_ _ _ _ _ _ => bn3 λ_ _ _ => rfl) (Zhr z28.u ZK ZbT)
 have ZW := dF z29 (z29.u.binds (ps := ["_law_top", "_law_bottom"]) λ_ _ _ _ _ _ => bn2 λ_ _ => rfl) (ZoC z29.u Zgg)
 have ZaR := dF z30 (z30.u.binds (ps := ["_law_number", "_law_wide"]) λ_ _ _ _ _ _ => bn2 λ_ _ => rfl) (Zlk z30.u ZW)
 have ZaQ := dF z31 (z31.u.binds (ps := ["_law_script", "_law_most"]) λ_ _ _ _ _ _ => bn2 λ_ _ => rfl) (ZlZ z31.u ZH ZK Za4 Zht Zm6 Zv ZE ZaR)
 have ZaU := dF z32 (z32.u.binds (ps := ["_law_cell", "_law_many"]) λ_ _ _ _ _ _ => bn2 λ_ _ => rfl) (ZkK z32.u ZK ZA ZH)
 have ZaS := dF z33 (z33.u.binds (ps := ["_law_script", "_law_many", "_law_most"]) λ_ _ _ _ _ _ => bn3 λ_ _ _ => rfl) (Zkh z33.u ZhF ZA Zv ZaU ZE)
 have Zax := ZpQ X G a61 k61 b61 (My.ZpX (P := l.prog) (w := w) (base := base) U61 hcd61 hC61 hB ZA ZT ZH ZbC Zhe)
 have ZaL := dF z62 (z62.u.binds (ps := ["one", "other"]) λ_ _ _ _ _ _ => bn2 λ_ _ => rfl) (ZjL z62.u )
 have Zbd := dF z63 (z63.u.binds (ps := ["tree", "homes"]) λ_ _ _ _ _ _ => bn2 λ_ _ => rfl) (Zh1 z63.u ZH Ziw)
 have Zga := dF z64 (z64.u.binds (ps := ["tree", "homes", "k"]) λ_ _ _ _ _ _ => bn3 λ_ _ _ => rfl) (Zl0 z64.u ZT Zdy)
 have ZcK := dF z65 (z65.u.binds (ps := ["homes", "names"]) λ_ _ _ _ _ _ => bn2 λ_ _ => rfl) (Zjf z65.u ZT)
 have Zct := dF z66 (z66.u.binds (ps := ["price", "payers", "left"]) λ_ _ _ _ _ _ => bn3 λ_ _ _ => rfl) (ZnZ z66.u ZaL Zdu Za0)
 have ZbK := My.Zlo (P := l.prog) (w := w) (base := base) U67 Zas ec Zho ZH Zao Zbd
 have Zag : Fn l.prog w K mg base (CX1 l.prog w) _ "look_sharing" ["tree", "homes", "sharing"] _ := ⟨f67, _, ZbK, b67, k67, mg_of X G a67⟩
 have ZcU : Fn l.prog w K mg base Zx _ "look_sharing" ["tree", "homes", "sharing"] _ := ⟨f67, _, ZnP ZbK, b67, k67, mg_of X G a67⟩
 have ZgJ := My.Zkm (P := l.prog) (w := w) (base := base) U68 ZT JD Zag ZcK Zax Zga ZaL Zao ZbM Zct Za0
 have Zb2 : Fn l.prog w K mg base (CX1 l.prog w) _ "judged" ["tree", "homes", "sharing"] _ := ⟨f68, _, ZgJ, b68, k68, mg_of X G a68⟩
 have ZiZ : Fn l.prog w K mg base Zx _ "judged" ["tree", "homes", "sharing"] _ := ⟨f68, _, ZnP ZgJ, b68, k68, mg_of X G a68⟩
 have Zdd := dF z69 (z69.u.binds (ps := ["_law_roads", "_law_k"]) λ_ _ _ _ _ _ => bn2 λ_ _ => rfl) (Zpr z69.u )
 have ZaG := dF z70 (z70.u.binds (ps := ["_law_one", "_law_other"]) λ_ _ _ _ _ _ => bn2 λ_ _ => rfl) (Zom z70.u ZW)
 have ZaK := dF z71 (z71.u.binds (ps := ["_law_roads", "_law_homes", "_law_cell"]) λ_ _ _ _ _ _ => bn3 λ_ _ _ => rfl) (ZiF z71.u ZA ZK Zn2 ZfR ZhF ZE Zdd ZaG ZW)
 have Zbx := dF z72 (z72.u.binds (ps := ["_law_sharing", "_law_cell"]) λ_ _ _ _ _ _ => bn2 λ_ _ => rfl) (Zjb z72.u JD ZH ZA ZW ZaG)
 have Zcw := My.Zik (P := l.prog) (w := w) (base := base) U73 Zb2 Zag
 have Zbp : Fn l.prog w K mg base (CX1 l.prog w) _ "_law_looked" ["_law_tree", "_law_homes", "_law_sharing", "_law_whole"] _ := ⟨f73, _, Zcw, b73, k73, mg_of X G a73⟩
 have ZlP : Fn l.prog w K mg base Zx _ "_law_looked" ["_law_tree", "_law_homes", "_law_sharing", "_law_whole"] _ := ⟨f73, _, ZnP Zcw, b73, k73, mg_of X G a73⟩
 have Zba := dF z74 (z74.u.binds (ps := ["_law_tree", "_law_homes", "_law_sharing", "_law_whole"]) λ_ _ _ _ _ _ => bn4 λ_ _ _ _ => rfl) (Zhp z74.u Zk Zbt Zbq Zbv Zen ZcZ Zc0 ZdC Zas xk u1 v1 v2 v3 v4 v5 v6 v7 Zbp)
 exact My.Zpc (P := l.prog) (w := w) (base := base) U75 ZA ZH JD ZK Zv ZaQ ZaS ZaK Zbx ZcU ZiZ Zba Zi4
end My
namespace PySem.W.Fast
def tw4815188599742905005 := ()
def tw11479226156493437793 := ()
def tw8411221342561968829 := ()
def tw1259840602288593064 := ()
def tw17709813020832217116 := ()
def tw8193173971077760280 := ()
def tw11666903073666752466 := ()
def tw2563021723018381179 := ()
def tw16209118005955124678 := ()
def tw13447747801182508661 := ()
def tw10195391027980845566 := ()
def tw4820019098214559247 := ()
def tw10675695088113975972 := ()
def tw16552444670289988136 := ()
def tw2475078926413385537 := ()
def tw15788535215909824481 := ()
def tw9479057488625626964 := ()
def tw12373917836067427596 := ()
def tw14722778058190657023 := ()
def tw5175888237534190414 := ()
def tw14848339031132026051 := ()
def tw18413394780365098358 := ()
def tw7289454934585518161 := ()
def tw8528338518890872605 := ()
def tw1264933613662647578 := ()
def tw10775205436461259969 := ()
def tw7461475145311108615 := ()
def tw8640926299122524792 := ()
def tw6465610709602871596 := ()
def tw8857191811241064231 := ()
def tw8001300672075350637 := ()
def tw16916025781914320640 := ()
def tw10426199471368588216 := ()
def tw10920828353882555968 := ()
def tw3337888827648727899 := ()
def tw11610082565043362823 := ()
def tw123326488702389205 := ()
def tw4363954452640227141 := ()
def tw6909196451290157402 := ()
def tw16177867510218521723 := ()
def tw11674773804352631333 := ()
def tw12012448832913947881 := ()
def tw16458582734954270930 := ()
def tw13524743126697465584 := ()
def tw9291015781338687634 := ()
def tw7483300422094778552 := ()
def tw4476586949313961981 := ()
def tw13800199787185982350 := ()
def tw9462399497851480421 := ()
def tw10097861590507243398 := ()
def tw11671273051415513912 := ()
def tw13139030291520857528 := ()
def tw11238956631164292536 := ()
def tw10856988673813670401 := ()
def tw2652269989155276121 := ()
def tw13153240987780451623 := ()
def tw8369521061393794956 := ()
def tw1489317547176557526 := ()
def tw3654475463424006847 := ()
def tw12625347574998350126 := ()
def tw11341745799559518013 := ()
def tw15621306205189821303 := ()
def tw14075915741147559196 := ()
def tw8992865629929608737 := ()
def tw3453873927225487710 := ()
def tw8909239121942568300 := ()
def tw11759270851597631444 := ()
def tw8913834121162837836 := ()
def tw13693075569075595837 := ()
def tw13008602632906634487 := ()
def tw4953472189791020751 := ()
def tw3319524271652667340 := ()
def tw12217522599927758969 := ()
def tw3983928154779373139 := ()
def tw1733233246009026944 := ()
def tw15199555681372661637 := ()
def tw5826436627428866475 := ()
def tw1889293121300746801 := ()
def tw6489346014171466189 := ()
def tw13016125926833040181 := ()
def tw10661239299203400622 := ()
def tw6277406005176062924 := ()
def tw7767292867281971404 := ()
def tw1179060556493258992 := ()
def tw10383424566458545573 := ()
def tw4283695860109499074 := ()
def tw13330273418535901245 := ()
def tw8640818301964995602 := ()
def tw15768426887181484972 := ()
def tw13577543970018094815 := ()
def tw13043531567689025197 := ()
def tw12093746689779519667 := ()
def tw3769872226154588600 := ()
def tw7532055185112191633 := ()
def tw9185438780054845213 := ()
def tw9430249939511434531 := ()
def tw13967733331730405536 := ()
def tw16190615575948088310 := ()
def tw6915107986354830890 := ()
def tw8593097948681548204 := ()
def tw10583731017770322948 := ()
def tw11169084276780250194 := ()
def tw10891133497538706238 := ()
def tw1201133166260951690 := ()
def tw3871718132145585822 := ()
def tw12626691628590753818 := ()
def tw171506814932586451 := ()
def tw10197012968692333147 := ()
def tw14119151224741096899 := ()
def tw8877446857193547467 := ()
end PySem.W.Fast
open PySem PySem.W PyProof.Rows
local macro_rules | `(tactic| walk_at "zi") => `(tactic| (refine' My.Zpp ?a ?l ?c ?k; (case a => k_is); (case l => k_is); (case c => k_is); (case k => k_is)))
set_option maxRecDepth 100000 in
set_option maxHeartbeats 0 in
theorem PySem.Challenge.cw_roadshare_k31_no_sharings_holds : PySem.Challenge.rw_roadshare_k31_no_sharings.Holds := by
 w_on; o_law; k_head; (case hw => w_witness2)
 k_fill
 refine L2.Zkg (l := PySem.Challenge.rw_roadshare_k31_no_sharings) (n := 63) (k := 12) (x := "_law_script") (CX := L2.Zx) (sp := My.Zkl 196) (λb => if b = 196 then some (Str.ofString "far_roads_first.<locals>.<lambda>") else none) rfl (by decide) rfl ⟨rfl, by decide, by decide⟩ (λw h Y => km_in_of Y) ?T ?KT ?F ?S ?C
 case T =>
  intro w h Y b q hb
  have e : b = 196 := by
   by_cases z : b = 196
   ·exact z
   ·rw [if_neg z] at hb; cases hb
  subst e
  exact ⟨⟨200, codeHd_of_K (km_in_of Y) (by kernel_rfl)⟩, PySem.W.km_tabs_of Y 196 (by simp)⟩
 case KT =>
  intro w b q hb
  have e : b = 196 := by
   by_cases z : b = 196
   ·exact z
   ·rw [if_neg z] at hb; cases hb
  subst e
  first | k_is | kernel_rfl
 case S => exact λK H a ns hl hO hS => ⟨a, ns, rfl, hS, hO 196 _ (if_pos rfl), λ_ => rfl⟩
 case C => exact λ_ _ _ _ z => z
 case F =>
  intro w mg fa h KX G hmg
  refine' My.Zpu KX G hmg ?z0 ?z1 ?z2 ?a3 ?l3 ?c3 ?k3 ?t3 ?z6 ?z7 ?z8 ?z9 ?z10 ?z11 ?a_MOST_ROADS ?z13 ?z14 ?a_Tree ?pg_Tree ?hd_Tree ?po_Tree ?sa_Tree ?ZaN ?Jb ?a16 ?l16 ?c16 ?k16 ?i16 ?mk16 ?kc16 ?a17 ?l17 ?c17 ?k17 ?i17 ?a18 ?l18 ?c18 ?k18 ?i18 ?a19 ?l19 ?c19 ?k19 ?i19 ?a20 ?l20 ?c20 ?k20 ?i20 ?a21 ?l21 ?c21 ?k21 ?i21 ?a22 ?l22 ?c22 ?k22 ?i22 ?z23 ?z24 ?z25 ?z26 ?z27 ?z28 ?z29 ?z30 ?z31 ?z32 ?z33 ?a_ShareError ?a_NoFraction ?a_NoName ?a_NoPlace ?a_NoPrice ?a_TooMany ?a_NoSharing ?ec0 ?x0 ?x1 ?x2 ?x3 ?x4 ?x5 ?x6 ?x7 ?u1 ?v1 ?v2 ?v3 ?v4 ?v5 ?v6 ?v7 ?a61 ?l61 ?c61 ?k61 ?hcd61 ?hC61 ?z62 ?z63 ?z64 ?z65 ?z66 ?a67 ?l67 ?c67 ?k67 ?a68 ?l68 ?c68 ?k68 ?z69 ?z70 ?z71 ?z72 ?a73 ?l73 ?c73 ?k73 ?z74 ?a75 ?l75 ?c75 ?k75 ?Zbn ?Znv ?Zjw ?Zn1 ?Zf1 ?Zop ?Zot ?Zi9 ?Zgd ?ZeR ?ZoJ ?ZbO ?Zog ?Zns ?ZjJ ?Znf ?Zbw
  (case z0 => walk_at "zi")
  (case z1 => walk_at "zi")
  (case z2 => walk_at "zi")
  (case a3 => k_is)
  (case l3 => k_is)
  (case c3 => k_is)
  (case k3 => k_is)
  (case t3 => k_is)
  (case z6 => walk_at "zi")
  (case z7 => walk_at "zi")
  (case z8 => walk_at "zi")
  (case z9 => walk_at "zi")
  (case z10 => walk_at "zi")
  (case z11 => walk_at "zi")
  (case a_MOST_ROADS => k_is)
  (case z13 => walk_at "zi")
  (case z14 => walk_at "zi")
  (case a_Tree => k_is)
  (case pg_Tree => k_is)
  (case hd_Tree => k_is)
  (case po_Tree => k_is)
  (case sa_Tree => k_is)
  (case ZaN => k_is)
  (case Jb => k_is)
  (case a16 => k_is)
  (case l16 => k_is)
  (case c16 => k_is)
  (case k16 => k_is)
  (case i16 => k_is)
  (case mk16 => k_is)
  (case kc16 => k_is)
  (case a17 => k_is)
  (case l17 => k_is)
  (case c17 => k_is)
  (case k17 => k_is)
  (case i17 => k_is)
  (case a18 => k_is)
  (case l18 => k_is)
  (case c18 => k_is)
  (case k18 => k_is)
  (case i18 => k_is)
  (case a19 => k_is)
  (case l19 => k_is)
  (case c19 => k_is)
  (case k19 => k_is)
  (case i19 => k_is)
  (case a20 => k_is)
  (case l20 => k_is)
  (case c20 => k_is)
  (case k20 => k_is)
  (case i20 => k_is)
  (case a21 => k_is)
  (case l21 => k_is)
  (case c21 => k_is)
  (case k21 => k_is)
  (case i21 => k_is)
  (case a22 => k_is)
  (case l22 => k_is)
  (case c22 => k_is)
  (case k22 => k_is)
  (case i22 => k_is)
  (case z23 => walk_at "zi")
  (case z24 => walk_at "zi")
  (case z25 => walk_at "zi")
  (case z26 => walk_at "zi")
  (case z27 => walk_at "zi")
  (case z28 => walk_at "zi")
  (case z29 => walk_at "zi")
  (case z30 => walk_at "zi")
  (case z31 => walk_at "zi")
  (case z32 => walk_at "zi")
  (case z33 => walk_at "zi")
  (case a_ShareError => k_is)
  (case a_NoFraction => k_is)
  (case a_NoName => k_is)
  (case a_NoPlace => k_is)
  (case a_NoPrice => k_is)
  (case a_TooMany => k_is)
  (case a_NoSharing => k_is)
  (case ec0 => k_exc)
  (case x0 => k_is)
  (case x1 => k_is)
  (case x2 => k_is)
  (case x3 => k_is)
  (case x4 => k_is)
  (case x5 => k_is)
  (case x6 => k_is)
  (case x7 => k_is)
  (case u1 => kts_exm)
  (case v1 => kit_is)
  (case v2 => kit_is)
  (case v3 => kit_is)
  (case v4 => kit_is)
  (case v5 => kit_is)
  (case v6 => kit_is)
  (case v7 => kit_is)
  (case a61 => k_is)
  (case l61 => k_is)
  (case c61 => k_is)
  (case k61 => k_is)
  (case hcd61 => exact rfl)
  (case hC61 => kernel_rfl)
  (case z62 => walk_at "zi")
  (case z63 => walk_at "zi")
  (case z64 => walk_at "zi")
  (case z65 => walk_at "zi")
  (case z66 => walk_at "zi")
  (case a67 => k_is)
  (case l67 => k_is)
  (case c67 => k_is)
  (case k67 => k_is)
  (case a68 => k_is)
  (case l68 => k_is)
  (case c68 => k_is)
  (case k68 => k_is)
  (case z69 => walk_at "zi")
  (case z70 => walk_at "zi")
  (case z71 => walk_at "zi")
  (case z72 => walk_at "zi")
  (case a73 => k_is)
  (case l73 => k_is)
  (case c73 => k_is)
  (case k73 => k_is)
  (case z74 => walk_at "zi")
  (case a75 => k_is)
  (case l75 => k_is)
  (case c75 => k_is)
  (case k75 => k_is)
  (case Zbn => k_is)
  (case Znv => k_is)
  (case Zjw => k_is)
  (case Zn1 => k_is)
  (case Zf1 => k_is)
  (case Zop => k_is)
  (case Zot => k_is)
  (case Zi9 => k_is)
  (case Zgd => k_is)
  (case ZeR => k_is)
  (case ZoJ => k_is)
  (case ZbO => k_is)
  (case Zog => k_is)
  (case Zns => k_is)
  (case ZjJ => k_is)
  (case Znf => k_is)
  (case Zbw => k_is)
#print axioms PySem.Challenge.cw_roadshare_k31_no_sharings_holds

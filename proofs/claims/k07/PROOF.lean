import PyProof.Rows.All
import Wide.All
import OpenK.AllK
import Wide.FinOn
import PyProof.EqAt
import PyProof.EqKinds
import PyProof.TupleCall
import KE.BitLaws
import PyProof.IsiPairs
import PyProof.IsiNone
import PyProof.IsiSeqPairs
import PyProof.SetRoads
import PyProof.SetNew
import PyProof.Rows.SetObj
import PyProof.ListRange
import PyProof.Draws
import PyProof.EnumMake
import PyProof.WalksMore
import PyProof.ListMulRoad
import PyProof.Rows.SeqMore
import PyProof.FactsAll.tuple
import KE.KTryMore
import KE.KIsAll
import PyProof.P3Eq
import KE.KLam
import PyProof.Rows.SortShellAny
import KE.KSuper
import PyProof.ExcInit
import PyProof.ExcClass2
import PyProof.InstStoreFacts
import KE.KFromBytes
import PyProof.SetScanFacts
import PyProof.Rows.SetFrom
import KE.KSetDisp
import KE.KStar
import PyProof.CollectIter
import PyProof.DictUpdate
import PySem.Challenge.RW_halfseams_k07_parts_by_hand
set_option Elab.async false
set_option linter.all false
set_option maxRecDepth 100000
namespace L2
open PySem PySem.Spec PyProof.Rows
abbrev Key := Sum Int (Option Str)
def keyIs : Key → Value → Bool
  | .inl k, v => Value.isInt k v
  | .inr (some x), v => Value.isStrOf x v
  | .inr none, .none => true
  | .inr none, _ => false
def keyH (w : World) : Key → Int
  | .inl k => hashInt k
  | .inr (some x) => hashStr w x
  | .inr none => 0xFCA86420
theorem keyIs_shape : ∀ {k : Key} {v : Value}, keyIs k v = true → (∃ i t, k = Sum.inl i ∧ v = Value.int i t) ∨ (∃ x t, k = Sum.inr (some x) ∧ v = Value.str x t) ∨ (k = Sum.inr none ∧ v = Value.none)
  | .inl i, v, h => by
    obtain ⟨t, e⟩ := Value.isInt_shape (k := i) (v := v) h
    exact .inl ⟨i, t, rfl, e⟩
  | .inr (some x), v, h => by
    obtain ⟨t, e⟩ := Value.isStrOf_shape (x := x) (v := v) h
    exact .inr (.inl ⟨x, t, rfl, e⟩)
  | .inr none, v, h => by
    cases v with
    | none => exact .inr (.inr ⟨rfl, rfl⟩)
    | _ => cases h
theorem key_ll (a b : Int) : decide ((Sum.inl a : Key) = Sum.inl b) = (a == b) := by
  by_cases e : a = b
  · subst e; simp
  · have h : ¬ (Sum.inl a : Key) = Sum.inl b := fun q => e (Sum.inl.inj q)
    rw [decide_eq_false h]
    exact (beq_eq_false_iff_ne.mpr e).symm
theorem key_rr (a b : Str) : decide ((Sum.inr (some a) : Key) = Sum.inr (some b)) = decide (a = b) := by
  by_cases e : a = b
  · subst e; simp
  · have h : ¬ (Sum.inr (some a) : Key) = Sum.inr (some b) := fun q => e (Option.some.inj (Sum.inr.inj q))
    rw [decide_eq_false h, decide_eq_false e]
theorem key_lr (a : Int) (b : Option Str) : decide ((Sum.inl a : Key) = Sum.inr b) = false := decide_eq_false (fun q => nomatch q)
theorem key_rl (a : Option Str) (b : Int) : decide ((Sum.inr a : Key) = Sum.inl b) = false := decide_eq_false (fun q => nomatch q)
theorem key_ns (b : Str) : decide ((Sum.inr none : Key) = Sum.inr (some b)) = false := decide_eq_false (fun q => nomatch (Sum.inr.inj q))
theorem key_sn (b : Str) : decide ((Sum.inr (some b) : Key) = Sum.inr none) = false := decide_eq_false (fun q => nomatch (Sum.inr.inj q))
theorem key_nn : decide ((Sum.inr none : Key) = Sum.inr none) = true := decide_eq_true rfl
theorem wpAny_pyHash_none {prog : Program} {w : World} {A : Around} {E : Value → Shared → Prop} {s : Shared} {Q : Int → Shared → Prop} (h : Q 0xFCA86420 { s with toks := s.toks + 1 }) :
    wpAny (model prog w) A (pyHash .none) Q E s := by
  have hT : s.TypeIs .none "NoneType" := rfl
  unfold pyHash
  have hv : [Value.none].any Value.onHeap = false := rfl
  refine wpAny_bind ?_
  rw [cRoomFor, if_neg (by rw [hv]; exact Bool.false_ne_true)]; refine wpAny_pure ?_
  refine wpAny_bind (wpAny_specialOf hT F.slot_NoneType_hash.lookup ?_)
  show wpAny _ _ (if (some (Value.builtin "NoneType.__hash__") == some Value.none) = true then _ else _) Q E s
  rw [if_neg (by rw [beq_builtin_none]; exact Bool.false_ne_true)]
  refine wpAny_bind (wpAny_specialOf hT F.slot_NoneType_hash.lookup ?_)
  show wpAny _ _ (callSpecialIfBoundUnlessNone? .none "__hash__" _ >>= _) Q E s
  refine wpAny_bind (wpAny_callSpecialIfBoundUnlessNone?_slot hT F.slot_NoneType_hash
    (wpAny_call_entry F.slot_NoneType_hash hT F.entry_NoneType_hash
      (show wpAny _ _ (do ret (← mkInt 0xFCA86420)) _ _ s from wpAny_ret_mkInt ?_) (F.args_NoneType_hash_1 _)))
  show wpAny _ _ (if (decide (-(2 : Int) ^ 63 ≤ 0xFCA86420) && decide ((0xFCA86420 : Int) < 2 ^ 63)) = true then _ else _) Q E _
  rw [if_pos (by decide)]
  exact wpAny_pure h
def mixKind (prog : Program) (w : World) : PySem.KeyKind prog w Key where
  is := keyIs
  hash := keyH w
  inj := fun v a b ha hb => by
    rcases keyIs_shape ha with ⟨i, t, rfl, rfl⟩ | ⟨x, t, rfl, rfl⟩ | ⟨rfl, rfl⟩
    · rcases keyIs_shape hb with ⟨j, u, rfl, e⟩ | ⟨y, u, rfl, e⟩ | ⟨rfl, e⟩
      · injection e with e1 _; rw [e1]
      · exact nomatch e
      · exact nomatch e
    · rcases keyIs_shape hb with ⟨j, u, rfl, e⟩ | ⟨y, u, rfl, e⟩ | ⟨rfl, e⟩
      · exact nomatch e
      · injection e with e1 _; rw [e1]
      · exact nomatch e
    · rcases keyIs_shape hb with ⟨j, u, rfl, e⟩ | ⟨y, u, rfl, e⟩ | ⟨rfl, e⟩
      · exact nomatch e
      · exact nomatch e
      · rfl
  byValue := fun k v h => by
    rcases keyIs_shape h with ⟨i, t, rfl, rfl⟩ | ⟨x, t, rfl, rfl⟩ | ⟨rfl, rfl⟩ <;> rfl
  pyHash := fun hv h => by
    rcases keyIs_shape hv with ⟨i, t, rfl, rfl⟩ | ⟨x, t, rfl, rfl⟩ | ⟨rfl, rfl⟩
    · exact wpAny_pyHash_int h
    · exact wpAny_pyHash_str h
    · exact wpAny_pyHash_none h
  eqBool := fun hu hv h => by
    rcases keyIs_shape hu with ⟨i, t, rfl, rfl⟩ | ⟨x, t, rfl, rfl⟩ | ⟨rfl, rfl⟩
    · rcases keyIs_shape hv with ⟨j, u, rfl, rfl⟩ | ⟨y, u, rfl, rfl⟩ | ⟨rfl, rfl⟩
      · rw [key_ll] at h; exact wpAny_eqBool_int h
      · rw [key_lr] at h; exact SeqAt.EqAt.int_str i t y u _ _ _ _ h
      · rw [key_lr] at h; exact SeqAt.EqAt.int_none i t _ _ _ _ h
    · rcases keyIs_shape hv with ⟨j, u, rfl, rfl⟩ | ⟨y, u, rfl, rfl⟩ | ⟨rfl, rfl⟩
      · rw [key_rl] at h; exact SeqAt.EqAt.str_int x t j u _ _ _ _ h
      · rw [key_rr] at h; exact wpAny_eqBool_str h
      · rw [key_sn] at h; exact SeqAt.EqAt.str_none x t _ _ _ _ h
    · rcases keyIs_shape hv with ⟨j, u, rfl, rfl⟩ | ⟨y, u, rfl, rfl⟩ | ⟨rfl, rfl⟩
      · rw [key_rl] at h; exact SeqAt.EqAt.none_int j u _ _ _ _ h
      · rw [key_ns] at h; exact SeqAt.EqAt.none_str y u _ _ _ _ h
      · rw [key_nn] at h; exact SeqAt.EqAt.same .none _ _ _ _ h
  «strs» := fun k x t v h => by
    rcases keyIs_shape h with ⟨i, u, rfl, e⟩ | ⟨y, u, rfl, e⟩ | ⟨rfl, e⟩
    · exact nomatch e
    · injection e with e1 _
      subst e1
      cases v <;> rfl
    · exact nomatch e
end L2
namespace L2
open PySem PySem.Spec PyProof.Rows
inductive V where
  | non | bl (b : Bool) | int (i : Int) | str (x : Str) | byt (b : Array UInt8) | flt (b : UInt64) | ref (a : Addr) | ty (n : String)
  deriving DecidableEq
def RelV : V → Value → Prop
  | .non, u => u = Value.none
  | .bl b, u => u = Value.bool b
  | .int i, u => ∃ t, u = Value.int i t
  | .str x, u => ∃ t, u = Value.str x t
  | .byt b, u => ∃ t, u = Value.bytes b t
  | .flt b, u => ∃ t, u = Value.float b t
  | .ref a, u => u = Value.ref a
  | .ty n, u => u = Value.type n
abbrev Vals : List V → List Value → Prop := Paired RelV
theorem Vals.length {xs : List V} {us : List Value} (r : Vals xs us) : xs.length = us.length := Paired.length r
theorem Vals.get : ∀ {xs : List V} {us : List Value} {i : Nat} {x : V}, Vals xs us → xs[i]? = some x → ∃ u, us[i]? = some u ∧ RelV x u
  | _, _, _, _, .nil, e => by simp at e
  | _, _, 0, _, .cons r _, e => by simp at e; subst e; exact ⟨_, rfl, r⟩
  | _, _, i + 1, x, .cons _ t, e => by
    obtain ⟨u, h1, h2⟩ := Vals.get (i := i) (x := x) t (by simpa using e)
    exact ⟨u, by simpa using h1, h2⟩
theorem Vals.set {x : V} {u : Value} (r : RelV x u) : ∀ {xs : List V} {us : List Value} (i : Nat), Vals xs us → Vals (xs.set i x) (us.set i u)
  | _, _, _, .nil => .nil
  | _, _, 0, .cons _ t => .cons r t
  | _, _, i + 1, .cons q t => .cons q (Vals.set r i t)
theorem Vals.append : ∀ {xs ys : List V} {us ws : List Value}, Vals xs us → Vals ys ws → Vals (xs ++ ys) (us ++ ws)
  | _, _, _, _, .nil, s => s
  | _, _, _, _, .cons r t, s => .cons r (Vals.append t s)
theorem Vals.take : ∀ {xs : List V} {us : List Value} (n : Nat), Vals xs us → Vals (xs.take n) (us.take n)
  | _, _, 0, _ => .nil
  | _, _, _ + 1, .nil => .nil
  | _, _, n + 1, .cons r t => .cons r (Vals.take n t)
theorem Vals.drop : ∀ {xs : List V} {us : List Value} (n : Nat), Vals xs us → Vals (xs.drop n) (us.drop n)
  | _, _, 0, r => r
  | _, _, _ + 1, .nil => .nil
  | _, _, n + 1, .cons _ t => Vals.drop n t
def RelO : Option V → Option Value → Prop
  | some v, some u => RelV v u
  | none, none => True
  | _, _ => False
def KV {κ : Type} : List (κ × V) → List (κ × Value) → Prop := Paired fun (p : κ × V) (q : κ × Value) => p.1 = q.1 ∧ RelV p.2 q.2
def kV : Key → V
  | .inl i => .int i
  | .inr (some x) => .str x
  | .inr none => .non
inductive HO where
  | lst (xs : List V)
  | tup (xs : List V)
  | dK (kvs : List (Key × V)) | dT (kvs : List (List Key × V))
  | set (S : Int → Bool) (n : Nat)
  | ins (C dx : Addr) (fs : List (Str × V))
  | own (x : Addr)
  | xd (fs : List (Str × V))
  | met (f x : Addr)
  | rng (lo hi : Int)
  | frz (o : Obj) (u : HO)
  | tbl (ps : Array Value)
  | ext (φ : Heap → Prop)
abbrev Hp := Addr → Option HO
def upd (H : Hp) (a : Addr) (o : HO) : Hp := fun b => if b = a then some o else H b
theorem upd_same {H : Hp} {a : Addr} {o : HO} : upd H a o a = some o := by unfold upd; rw [if_pos rfl]
theorem upd_ne {H : Hp} {a b : Addr} {o : HO} (h : b ≠ a) : upd H a o b = H b := by unfold upd; rw [if_neg h]
theorem ne_of_none {H : Hp} {a b : Addr} {o : HO} (h : H a = some o) (h' : H b = none) : a ≠ b := by
  intro e; subst e; rw [h] at h'; cases h'
def TupN (h : Heap) (a : Addr) (its : Array Value) : Prop := ∃ o, h.get? a = some o ∧ o.dict = none ∧ o.cls = .type "tuple" ∧ ∃ n, o.data = .seq its n
theorem TupN.is {h : Heap} {a : Addr} {its : Array Value} (p : TupN h a its) : IsTup h a its := by
  obtain ⟨o, e, _, c, n, d⟩ := p
  exact ⟨o, e, c, n, d⟩
theorem TupN.new (h : Heap) (its : Array Value) : TupN (h.push { cls := .type "tuple", data := .seq its }) h.objs.size its := ⟨_, Heap.get?_push_size _ rfl, rfl, rfl, _, rfl⟩
section
variable (P : Program) (w : World)
def ObjOk (H : Hp) (h : Heap) (a : Addr) : HO → Prop
  | .lst xs => xs.length ≤ sizeLine ∧ ∃ (its : List Value) (n : Nat), Vals xs its ∧ h.get? a = some { cls := .type "list", data := .seq its.toArray n }
  | .tup xs => xs.length ≤ sizeLine ∧ ∃ its : List Value, Vals xs its ∧ TupN h a its.toArray
  | .dK kvs => kvs.length ≤ sizeLine ∧ (a == sysModules) = false ∧ ∃ vs, KV kvs vs ∧ h.DictOf (mixKind P w) a vs
  | .dT kvs => kvs.length ≤ sizeLine ∧ (a == sysModules) = false ∧ ∃ xs : List (List Key × Addr × Value),
      Paired (fun (p : List Key × V) (q : List Key × Addr × Value) => p.1 = q.1 ∧ H q.2.1 = some (.tup (p.1.map kV)) ∧ RelV p.2 q.2.2) kvs xs ∧
      ∃ o es ep, h.get? a = some o ∧ o.ExactDict ∧ o.data = .dict es ep ∧ es.toList = xs.map (entryOfKey (tupleKind (mixKind P w))) ∧ (xs.map (·.1)).Nodup
  | .set S n => h.SetOf (intKind P w) a S n
  | .ins C dx fs => H dx = some (.own a) ∧ fs.length ≤ 1000 ∧ dx ≠ a ∧ h.get? a = some (PySem.W.instObj C dx) ∧
      ∃ mA, h.Ns1 dx mA ∧ (∀ f, RelO (fs.lookup f) (mA f)) ∧ PySem.Within mA (fs.map (·.1))
  | .own _ => ∃ o, h.get? a = some o
  | .xd fs => ∃ mA, h.Ns1 a mA ∧ ∀ f, RelO (fs.lookup f) (mA f)
  | .rng lo hi => ∃ t u v, h.get? a = some { cls := .type "range", data := .fields #[.int lo t, .int hi u, .int 1 v] }
  | .frz o u => h.get? a = some o ∧ ObjOk H h a u
  | .tbl ps => h.get? a = some { cls := .none, data := .fields ps }
  | .met f x => h.get? a = some (PySem.W.methodObj (.ref f) (.ref x))
  | .ext φ => φ h ∧ (∃ o, h.get? a = some o) ∧ ∀ h1 h2 : Heap, φ h1 → (∀ o, h1.get? a = some o → h2.get? a = some o) → φ h2
def HOk (H : Hp) (h : Heap) : Prop := ∀ a o, H a = some o → ObjOk P w H h a o
end
section
variable {P : Program} {w : World} {H H' : Hp} {h h' : Heap} {a : Addr} {o : HO}
theorem ObjOk.lt (x : ObjOk P w H h a o) : a < h.objs.size := by
  cases o with
  | lst xs => obtain ⟨_, _, _, _, e⟩ := x; exact Heap.lt_size e
  | tup xs => obtain ⟨_, _, _, p⟩ := x; exact p.is.lt
  | dK kvs => obtain ⟨_, _, _, _, o, _, _, e, _⟩ := x; exact Heap.lt_size e
  | dT kvs => obtain ⟨_, _, _, _, o, _, _, e, _⟩ := x; exact Heap.lt_size e
  | set S n => obtain ⟨o, _, _, _, e, _⟩ := x; exact Heap.lt_size e
  | ins C dx fs => obtain ⟨_, _, _, e, _⟩ := x; exact Heap.lt_size e
  | own y => obtain ⟨_, e⟩ := x; exact Heap.lt_size e
  | xd fs => obtain ⟨_, ⟨_, _, _, e, _⟩, _⟩ := x; exact Heap.lt_size e
  | rng lo hi => obtain ⟨_, _, _, e⟩ := x; exact Heap.lt_size e
  | frz ob u => obtain ⟨e, _⟩ := x; exact Heap.lt_size e
  | tbl ps => exact Heap.lt_size (show h.get? a = some _ from x)
  | met f y => exact Heap.lt_size (show h.get? a = some _ from x)
  | ext φ => obtain ⟨_, ⟨_, e⟩, _⟩ := x; exact Heap.lt_size e
theorem Paired.mapP {α β : Type} {F G : α → β → Prop} : ∀ {l₁ : List α} {l₂ : List β}, Paired F l₁ l₂ → (∀ a b, F a b → G a b) → Paired G l₁ l₂
  | _, _, .nil, _ => .nil
  | _, _, .cons r t, f => .cons (f _ _ r) (Paired.mapP t f)
theorem ObjOk.stay (x : ObjOk P w H h a o) (k : ∀ b u, (b = a ∨ H b = some (.own a)) → h.get? b = some u → h'.get? b = some u)
    (ho : ∀ b, H b = some (.own a) → H' b = some (.own a)) (ht : ∀ b xs, H b = some (.tup xs) → H' b = some (.tup xs)) : ObjOk P w H' h' a o := by
  induction o with
  | lst xs => obtain ⟨z, its, n, r, e⟩ := x; exact ⟨z, its, n, r, k _ _ (.inl rfl) e⟩
  | tup xs => obtain ⟨z, its, r, ob, e, c⟩ := x; exact ⟨z, its, r, ob, k _ _ (.inl rfl) e, c⟩
  | dK kvs => obtain ⟨z, y, vs, r, ob, es, ep, e, c⟩ := x; exact ⟨z, y, vs, r, ob, es, ep, k _ _ (.inl rfl) e, c⟩
  | dT kvs =>
    obtain ⟨z, y, xs, r, ob, es, ep, e, c⟩ := x
    exact ⟨z, y, xs, Paired.mapP r fun p q z => ⟨z.1, ht _ _ z.2.1, z.2.2⟩, ob, es, ep, k _ _ (.inl rfl) e, c⟩
  | set S n => obtain ⟨ob, es, ep, t, e, c⟩ := x; exact ⟨ob, es, ep, t, k _ _ (.inl rfl) e, c⟩
  | ins C dx fs =>
    obtain ⟨d, z, ne, e, mA, ⟨od, es, ep, e2, c⟩, r⟩ := x
    exact ⟨ho _ d, z, ne, k _ _ (.inl rfl) e, mA, ⟨od, es, ep, k _ _ (.inr d) e2, c⟩, r⟩
  | own y => obtain ⟨ob, e⟩ := x; exact ⟨ob, k _ _ (.inl rfl) e⟩
  | xd fs => obtain ⟨mA, ⟨od, es, ep, e, c⟩, r⟩ := x; exact ⟨mA, ⟨od, es, ep, k _ _ (.inl rfl) e, c⟩, r⟩
  | rng lo hi => obtain ⟨t, u, v, e⟩ := x; exact ⟨t, u, v, k _ _ (.inl rfl) e⟩
  | frz ob u ih => obtain ⟨e, q⟩ := x; exact ⟨k _ _ (.inl rfl) e, ih q⟩
  | tbl ps =>
    have e : h.get? a = some { cls := .none, data := .fields ps } := x
    show h'.get? a = some { cls := .none, data := .fields ps }
    exact k a _ (.inl rfl) e
  | met f y =>
    have e : h.get? a = some (PySem.W.methodObj (.ref f) (.ref y)) := x
    show h'.get? a = some (PySem.W.methodObj (.ref f) (.ref y))
    exact k a _ (.inl rfl) e
  | ext φ => obtain ⟨p, ⟨o, e⟩, st⟩ := x; exact ⟨st _ _ p fun o q => k _ _ (.inl rfl) q, ⟨o, k _ _ (.inl rfl) e⟩, st⟩
theorem HOk.lt (x : HOk P w H h) (e : H a = some o) : a < h.objs.size := (x a o e).lt
theorem HOk.fresh (x : HOk P w H h) (e : h.objs.size ≤ a) : H a = none := by
  cases q : H a with
  | none => rfl
  | some u => exact absurd (Nat.lt_of_lt_of_le (x.lt q) e) (Nat.lt_irrefl _)
theorem HOk.kept (x : HOk P w H h) (k : ∀ b u, h.get? b = some u → h'.get? b = some u) : HOk P w H h' := fun a o e =>
  (x a o e).stay (fun b u _ q => k b u q) (fun _ q => q) fun _ _ q => q
theorem HOk.laid (x : HOk P w H h) (k : ∀ b u, h.get? b = some u → h'.get? b = some u) (hp : h.objs.size ≤ a) (new : ObjOk P w (upd H a o) h' a o) : HOk P w (upd H a o) h' := fun b u e => by
  have hn := x.fresh hp
  by_cases hb : b = a
  · subst hb; rw [upd_same] at e; cases e; exact new
  · rw [upd_ne hb] at e
    exact (x b u e).stay (fun c v _ q => k c v q) (fun c q => by rw [upd_ne (ne_of_none q hn)]; exact q) fun c xs q => by rw [upd_ne (ne_of_none q hn)]; exact q
end
def Rd (H : Hp) (a : Addr) (u : HO) : Prop := H a = some u ∨ ∃ o, H a = some (.frz o u)
theorem Rd.of {H : Hp} {a : Addr} {u : HO} (h : H a = some u) : Rd H a u := .inl h
theorem Rd.ok {P : Program} {w : World} {H : Hp} {h : Heap} {a : Addr} {u : HO} (r : Rd H a u) (x : HOk P w H h) : ObjOk P w H h a u := by
  rcases r with r | ⟨o, r⟩
  · exact x a u r
  · obtain ⟨_, q⟩ := x a _ r
    exact q
def Mut : Option HO → Prop
  | some (.lst _) => True
  | some (.dK _) => True
  | some (.dT _) => True
  | some (.set _ _) => True
  | some (.ins _ _ _) => True
  | some (.ext _) => True
  | _ => False
section
variable {P : Program} {w : World} {H : Hp} {h h' : Heap} {x e : Addr} {o' : HO}
theorem HOk.write (ok : HOk P w H h) (mu : Mut (H x)) (he : e = x ∨ H e = some (.own x)) (k : ∀ b u, b ≠ e → h.get? b = some u → h'.get? b = some u) (heo : ∃ u, h'.get? e = some u)
    (new : ObjOk P w (upd H x o') h' x o') : HOk P w (upd H x o') h' := fun b u q => by
  have nown : ∀ c y, H c = some (.own y) → c ≠ x := fun c y r z => by subst z; rw [r] at mu; exact mu
  have ntup : ∀ c xs, H c = some (.tup xs) → c ≠ x := fun c xs r z => by subst z; rw [r] at mu; exact mu
  by_cases hb : b = x
  · subst hb; rw [upd_same] at q; cases q; exact new
  · rw [upd_ne hb] at q
    by_cases hbe : b = e
    · have q' : H b = some (.own x) := by
        rcases he with z | z
        · exact absurd (hbe.trans z) hb
        · rw [hbe]; exact z
      rw [q] at q'; cases q'
      obtain ⟨v, hv⟩ := heo
      exact ⟨v, by rw [hbe]; exact hv⟩
    · refine (ok b u q).stay (fun c v hc r => k c v ?_ r) (fun c r => by rw [upd_ne (nown c b r)]; exact r) fun c xs r => by rw [upd_ne (ntup c xs r)]; exact r
      rcases hc with rfl | hc
      · exact hbe
      · rintro rfl
        rcases he with z | z
        · exact nown c b hc z
        · rw [hc] at z; cases z; exact hb rfl
end
structure Un (fs ex : List Addr) (H H' : Hp) (h h' : Heap) : Prop where
  keep : ∀ b o, h.get? b = some o → H b = none → b ∉ fs → b ∉ ex → h'.get? b = some o
  slot : ∀ b o, h.get? b = some o → H b = none → b ∈ fs → b ∉ ex → ∃ sl, h'.get? b = some { o with slots := sl }
  free : ∀ b o, h.get? b = some o → H b = none → b ∉ ex → H' b = none
  there : ∀ b o, h.get? b = some o → b ∉ ex → ∃ o', h'.get? b = some o'
  tups : ∀ b xs, H b = some (.tup xs) → H' b = some (.tup xs)
  frzs : ∀ b o u, H b = some (.frz o u) → H' b = some (.frz o u)
  tbls : ∀ b ps, H b = some (.tbl ps) → ∃ more, H' b = some (.tbl (ps ++ more))
section
variable {fs fs' ex ex' : List Addr} {H H1 H2 : Hp} {h h1 h2 h' : Heap} {a x e : Addr} {o : HO}
theorem Un.any (u : Un fs ex H H1 h h1) {b : Addr} {ob : Obj} (q : h.get? b = some ob) (n : H b = none) (hx : b ∉ ex) : ∃ sl, h1.get? b = some { ob with slots := sl } := by
  by_cases hb : b ∈ fs
  · exact u.slot b ob q n hb hx
  · exact ⟨ob.slots, u.keep b ob q n hb hx⟩
theorem Un.trans (a : Un fs ex H H1 h h1) (b : Un fs ex H1 H2 h1 h2) : Un fs ex H H2 h h2 where
  keep := fun c ob q n hc hx => b.keep c ob (a.keep c ob q n hc hx) (a.free c ob q n hx) hc hx
  slot := fun c ob q n hc hx => by
    obtain ⟨sl, e1⟩ := a.slot c ob q n hc hx
    obtain ⟨sl', e2⟩ := b.slot c _ e1 (a.free c ob q n hx) hc hx
    exact ⟨sl', e2⟩
  free := fun c ob q n hx => by
    obtain ⟨o', e1⟩ := a.there c ob q hx
    exact b.free c o' e1 (a.free c ob q n hx) hx
  there := fun c ob q hx => by
    obtain ⟨o', e1⟩ := a.there c ob q hx
    exact b.there c o' e1 hx
  tups := fun c xs q => b.tups c xs (a.tups c xs q)
  frzs := fun c ob xs q => b.frzs c ob xs (a.frzs c ob xs q)
  tbls := fun c ps q => by
    obtain ⟨m1, e1⟩ := a.tbls c ps q
    obtain ⟨m2, e2⟩ := b.tbls c _ e1
    exact ⟨m1 ++ m2, by rw [e2, Array.append_assoc]⟩
theorem Un.kept (k : ∀ b u, h.get? b = some u → h'.get? b = some u) : Un fs ex H H h h' :=
  ⟨fun b ob q _ _ _ => k b ob q, fun b ob q _ _ _ => ⟨ob.slots, k b ob q⟩, fun _ _ _ n _ => n, fun b ob q _ => ⟨ob, k b ob q⟩, fun _ _ q => q, fun _ _ _ q => q, fun _ ps q => ⟨#[], by rw [q]; simp⟩⟩
theorem Un.refl : Un fs ex H H h h := Un.kept fun _ _ q => q
theorem Un.laid (k : ∀ b u, h.get? b = some u → h'.get? b = some u) (hp : h.objs.size ≤ a) (hn : H a = none) : Un fs ex H (upd H a o) h h' where
  keep := fun b u q _ _ _ => k b u q
  slot := fun b u q _ _ _ => ⟨u.slots, k b u q⟩
  free := fun b u q n _ => by rw [upd_ne (Nat.ne_of_lt (Nat.lt_of_lt_of_le (Heap.lt_size q) hp))]; exact n
  there := fun b u q _ => ⟨u, k b u q⟩
  tups := fun b xs q => by rw [upd_ne (ne_of_none q hn)]; exact q
  frzs := fun b u xs q => by rw [upd_ne (ne_of_none q hn)]; exact q
  tbls := fun b ps q => ⟨#[], by rw [upd_ne (ne_of_none q hn), q]; simp⟩
theorem Un.write (mu : Mut (H x)) (he : e = x ∨ H e = some (.own x)) (k : ∀ b u, b ≠ e → h.get? b = some u → h'.get? b = some u) (heo : ∃ u, h'.get? e = some u) : Un fs ex H (upd H x o) h h' := by
  have hx : ∀ b, H b = none → b ≠ x := fun b n z => by subst z; rw [n] at mu; exact mu
  have hb : ∀ b, H b = none → b ≠ e := fun b n z => by
    subst z
    rcases he with r | r
    · exact hx b n r
    · rw [n] at r; cases r
  have hm : ∀ b u, H b = some u → ¬ Mut (some u) → b ≠ x := fun b u q nm z => by subst z; rw [q] at mu; exact nm mu
  refine ⟨fun b u q n _ _ => k b u (hb b n) q, fun b u q n _ _ => ⟨u.slots, k b u (hb b n) q⟩, fun b u q n _ => by rw [upd_ne (hx b n)]; exact n, fun b u q _ => ?_,
    fun b xs q => by rw [upd_ne (hm b _ q fun z => z)]; exact q, fun b u xs q => by rw [upd_ne (hm b _ q fun z => z)]; exact q, fun b ps q => ⟨#[], by rw [upd_ne (hm b _ q fun z => z), q]; simp⟩⟩
  by_cases hbe : b = e
  · subst hbe; exact heo
  · exact ⟨u, k b u hbe q⟩
theorem Un.mono (u : Un fs ex H H1 h h1) (hs : ∀ b ∈ fs, b ∈ fs') (hx : ∀ b ∈ ex, b ∈ ex') : Un fs' ex' H H1 h h1 :=
  ⟨fun b ob q n hb he => u.keep b ob q n (fun z => hb (hs b z)) fun z => he (hx b z), fun _ _ q n _ he => u.any q n fun z => he (hx _ z), fun b ob q n he => u.free b ob q n fun z => he (hx b z), fun b ob q he => u.there b ob q fun z => he (hx b z), u.tups, u.frzs, u.tbls⟩
end
def trk (h : Heap) (H : Hp) : List Addr := (List.range h.objs.size).filter fun a => (H a).isSome
def hidT (h : Heap) (H : Hp) : Heap := PySem.W.hideAll h (trk h H)
theorem hidT_size (h : Heap) (H : Hp) : (hidT h H).objs.size = h.objs.size := PySem.W.hideAll_size _ _
theorem hidT_get {h : Heap} {H : Hp} {b : Addr} {o : Obj} (e : h.get? b = some o) (n : H b = none) : (hidT h H).get? b = some o :=
  PySem.W.hideAll_get _ e fun hm => by
    have q : (H b).isSome = true := (List.mem_filter.mp hm).2
    rw [n] at q; simp at q
theorem of_hidT {h : Heap} {H : Hp} {b : Addr} {o : Obj} (e : (hidT h H).get? b = some o) : h.get? b = some o ∧ H b = none := by
  have e' : h.get? b = some o := PySem.W.of_hideAll (trk h H) e
  refine ⟨e', ?_⟩
  cases q : H b with
  | none => rfl
  | some x =>
    have hm : b ∈ trk h H := List.mem_filter.mpr ⟨List.mem_range.mpr (Heap.lt_size e'), by simp [q]⟩
    have z : (hidT h H).get? b = none := PySem.W.hideAll_none (trk h H) hm
    rw [z] at e; cases e
def allNews (g h : Heap) (L : Addr) : List (Addr × Obj) := (List.range h.objs.size).filterMap fun a => if a = L ∨ (g.get? a).isSome = true then none else (h.get? a).map fun o => (a, o)
def rest (g h : Heap) (L d : Addr) : List (Addr × Obj) := (allNews g h L).filter fun p => decide (p.1 ≠ d)
end L2
namespace L2
open PySem PySem.Spec PyProof.Rows
structure Mod (K : PySem.W.Frag) (mg : Str → Option Value) (base : Heap) : Prop where
  kin : K.In base
  glob : base.Ns mainGlobals mg
  blt : ∃ mb, base.Ns builtinsNs mb ∧ ∀ x : Str, x ≠ "__name__" → mb x = bootBuiltins x
  nolimit : base.NoLimit
structure Cx where
  prog : Program
  w : World
  K : PySem.W.Frag
  mg : Str → Option Value
  base : Heap
  A : Around
  N : List Str
  s_0 : Shared
  H_0 : Hp
  env : Env
  outer : List Env
  stack : List Env
  ex : List Addr
  fn : Str → Bool
  calm : Bool
  pn : List (Addr × Obj)
  xe : Value → Shared → Prop
def frs (l : List Env) : List Addr := l.filterMap (·.frame)
abbrev Cx.fs (X : Cx) : List Addr := frs X.outer
def Vis (sc : Scope) (x : Str) : Prop := sc.names.lookup x = some .local ∨ sc.names.lookup x = some .cell ∨ sc.names.lookup x = some .free
def Loc (sc : Scope) (x : Str) : Prop := sc.names.lookup x = some .local ∨ sc.names.lookup x = some .cell
def Look (env : Env) (h : Heap) (m : Str → Option Value) (x : Str) (u : Value) : Prop :=
  (env.kindOf x = some .local ∧ m x = some u) ∨ ((env.kindOf x = some .cell ∨ env.kindOf x = some .free) ∧ ∃ c, env.cells.lookup x = some c ∧ h.IsCell c (some u))
structure Cx.Ok (X : Cx) : Prop where
  mod : Mod X.K X.mg X.base
  kind : X.env.scope.kind = .function
  glob : X.env.globals = mainGlobals
  blt : X.env.builtins = builtinsNs
  above : X.s_0.heap.objs.size ≤ X.env.locals
  inj : ∀ x y c, X.env.cells.lookup x = some c → X.env.cells.lookup y = some c → x = y
  has : ∀ x, (X.env.kindOf x = some .cell ∨ X.env.kindOf x = some .free) → ∃ c, X.env.cells.lookup x = some c
  cab : ∀ x c, X.fn x = true → X.env.cells.lookup x = some c → X.s_0.heap.objs.size ≤ c
  hd : X.calm = true → X.A.handled = none
  frames : X.A.frames = some X.stack
  stk : X.stack = X.outer ∨ (X.stack = X.env :: X.outer ∧ X.env.frame = some X.env.locals)
  exf : ∀ b ∈ X.ex, b ≠ X.env.locals ∧ ∀ x c, X.env.cells.lookup x = some c → c ≠ b
  bs : ∀ b o, X.base.get? b = some o → X.s_0.heap.get? b = some o ∧ X.H_0 b = none
  bsz : X.base.objs.size ≤ X.s_0.heap.objs.size
  noex : ∀ b o, X.base.get? b = some o → b ∉ X.ex
  exfs : ∀ b ∈ X.ex, b ∉ X.fs
  funs : X.s_0.heap.FunFrames X.base X.outer
  frf : ∀ b ∈ X.fs, X.H_0 b = none
structure Inv (X : Cx) (pins : List (Addr × Obj)) (σ : List (Option V)) (H : Hp) (s : Shared) : Prop where
  ok : X.Ok
  os : s.os = X.s_0.os
  bare : AllBare s.gens
  base : Un X.fs X.ex X.H_0 H X.s_0.heap s.heap
  loc : ∃ m, s.heap.Ns X.env.locals m ∧ ∀ (i : Nat) (x : Str) (v : V), X.N[i]? = some x → σ[i]? = some (some v) → Vis X.env.scope x → ∃ u, RelV v u ∧ Look X.env s.heap m x u
  cell : ∀ x c, X.env.cells.lookup x = some c → ∃ v, s.heap.IsCell c v
  free : H X.env.locals = none
  freeC : ∀ x c, X.env.cells.lookup x = some c → H c = none
  pin : ∀ p ∈ X.pn ++ pins, s.heap.get? p.1 = some p.2 ∧ H p.1 = none ∧ p.1 ≠ X.env.locals ∧ p.1 ∉ X.fs ∧ ∀ v, p.2.data ≠ .cell v
  hok : HOk X.prog X.w H s.heap
  len : σ.length = X.N.length
section
variable {X : Cx} {pins : List (Addr × Obj)} {σ : List (Option V)} {H H' : Hp} {s : Shared} {h' : Heap}
theorem Cx.Ok.nofr (ok : X.Ok) {b : Addr} {o : Obj} (e : X.base.get? b = some o) : b ∉ X.fs := fun hb => by
  have := (ok.funs.mem hb).1
  rw [e] at this; cases this
theorem Inv.bs (I : Inv X pins σ H s) : ∀ b o, X.base.get? b = some o → s.heap.get? b = some o ∧ H b = none := fun b o e =>
  ⟨I.base.keep b o (I.ok.bs b o e).1 (I.ok.bs b o e).2 (I.ok.nofr e) (I.ok.noex b o e), I.base.free b o (I.ok.bs b o e).1 (I.ok.bs b o e).2 (I.ok.noex b o e)⟩
theorem Inv.bk (I : Inv X pins σ H s) : ∀ b o, X.base.get? b = some o → s.heap.get? b = some o := fun b o e => (I.bs b o e).1
theorem Inv.mod (I : Inv X pins σ H s) : Mod X.K X.mg X.base := I.ok.mod
theorem Inv.kIn (I : Inv X pins σ H s) : X.K.In s.heap := I.ok.mod.kin.keeps I.bk
theorem Inv.nolimit (I : Inv X pins σ H s) : s.heap.NoLimit := I.ok.mod.nolimit.keeps I.bk
theorem Inv.fr (I : Inv X pins σ H s) : ∃ m, Fr X.base X.env.locals s.heap m :=
  let ⟨m, hn, _⟩ := I.loc
  ⟨m, hn, I.bk, Nat.le_trans I.ok.bsz I.ok.above⟩
theorem Inv.lt (I : Inv X pins σ H s) : X.env.locals < s.heap.objs.size := let ⟨_, hn, _⟩ := I.loc; hn.lt
theorem Inv.sz (I : Inv X pins σ H s) : X.s_0.heap.objs.size ≤ s.heap.objs.size := Nat.le_trans I.ok.above (Nat.le_of_lt I.lt)
theorem Inv.nofs (I : Inv X pins σ H s) {a : Addr} (h : s.heap.objs.size ≤ a) : a ∉ X.fs := fun hb => by
  obtain ⟨_, o, ho, _⟩ := I.ok.funs.mem hb
  exact absurd (Nat.lt_of_lt_of_le (Heap.lt_size ho) (Nat.le_trans I.sz h)) (Nat.lt_irrefl _)
theorem Inv.cne (I : Inv X pins σ H s) : ∀ x c, X.env.cells.lookup x = some c → c ≠ X.env.locals := fun x c e z => by
  obtain ⟨v, o, ho, hd⟩ := I.cell x c e
  obtain ⟨m, ⟨o', es, ep, ho', hd', _⟩, _⟩ := I.loc
  rw [z, ho'] at ho; cases ho; rw [hd'] at hd; cases hd
theorem Inv.funs (I : Inv X pins σ H s) : s.heap.FunFrames X.base X.outer := by
  have all : ∀ (l : List Env), (∀ b ∈ frs l, b ∈ X.fs) → X.s_0.heap.FunFrames X.base l → s.heap.FunFrames X.base l := by
    intro l
    induction l with
    | nil => intro _ _; trivial
    | cons env r ih =>
      intro hs hl
      obtain ⟨hk, ⟨L, o, hf, hn, ho, hd⟩, hr⟩ := hl
      have hL : L ∈ X.fs := hs L (by unfold frs; rw [List.filterMap_cons, hf]; exact List.mem_cons_self)
      obtain ⟨sl, e⟩ := I.base.slot L o ho (I.ok.frf L hL) hL fun z => I.ok.exfs L z hL
      exact ⟨hk, ⟨L, _, hf, hn, e, hd⟩, ih (fun b hb => hs b (by unfold frs; rw [List.filterMap_cons, hf]; exact List.mem_cons_of_mem _ hb)) hr⟩
  exact all X.outer (fun _ hb => hb) I.ok.funs
theorem Inv.stack (I : Inv X pins σ H s) : s.heap.FunFrames X.base X.stack := by
  rcases I.ok.stk with e | ⟨e, hf⟩
  · rw [e]; exact I.funs
  · rw [e]
    obtain ⟨m, hn, _⟩ := I.loc
    refine .cons (by rw [I.ok.kind]; decide) hf hn ?_ I.funs
    exact Heap.get?_none_of_le (Nat.le_trans I.ok.bsz I.ok.above)
theorem Inv.stkSub (I : Inv X pins σ H s) : ∀ b ∈ frs X.stack, b ∈ X.env.locals :: X.fs := fun b hb => by
  rcases I.ok.stk with e | ⟨e, hf⟩
  · rw [e] at hb; exact List.mem_cons_of_mem _ hb
  · rw [e] at hb
    unfold frs at hb
    rw [List.filterMap_cons, hf] at hb
    exact hb
theorem Inv.stkFree (I : Inv X pins σ H s) : ∀ b ∈ frs X.stack, H b = none := fun b hb => by
  rcases List.mem_cons.mp (I.stkSub b hb) with e | hb
  · rw [e]; exact I.free
  · obtain ⟨_, o, ho, _⟩ := I.ok.funs.mem hb
    exact I.base.free b o ho (I.ok.frf b hb) fun z => I.ok.exfs b z hb
theorem Inv.step {g' : Array GenState} {t' : Nat} {d' : Drawn} {ch : List Addr} (I : Inv X pins σ H s)
    (hch : ∀ b ∈ ch, (b ∈ X.ex ∨ X.s_0.heap.objs.size ≤ b) ∧ b ≠ X.env.locals ∧ (∀ x c, X.env.cells.lookup x = some c → c ≠ b) ∧ ∀ p ∈ X.pn ++ pins, p.1 ≠ b)
    (keep : ∀ b o, b ≠ X.env.locals → b ∉ X.fs → b ∉ ch → s.heap.get? b = some o → H b = none → h'.get? b = some o)
    (slot : ∀ b o, b ≠ X.env.locals → b ∈ X.fs → b ∉ ch → s.heap.get? b = some o → H b = none → ∃ sl, h'.get? b = some { o with slots := sl }) (free : ∀ b o, b ∉ ch → s.heap.get? b = some o → H b = none → H' b = none)
    (there : ∀ b o, b ∉ ch → s.heap.get? b = some o → ∃ o', h'.get? b = some o')
    (tups : ∀ b xs, H b = some (.tup xs) → H' b = some (.tup xs)) (frzs : ∀ b o u, H b = some (.frz o u) → H' b = some (.frz o u)) (tbls : ∀ b ps, H b = some (.tbl ps) → ∃ more, H' b = some (.tbl (ps ++ more)))
    (ns : ∀ m, s.heap.Ns X.env.locals m → h'.Ns X.env.locals m) (hok : HOk X.prog X.w H' h') (hg : AllBare g') :
    Inv X pins σ H' { s with heap := h', gens := g', drawn := d', toks := t' } := by
  have neL : ∀ b o, X.s_0.heap.get? b = some o → b ≠ X.env.locals := fun b o e => Nat.ne_of_lt (Nat.lt_of_lt_of_le (Heap.lt_size e) I.ok.above)
  have neC : ∀ b o, X.s_0.heap.get? b = some o → b ∉ X.ex → b ∉ ch := fun b o e hx hb => by
    rcases (hch b hb).1 with z | z
    · exact hx z
    · exact absurd (Nat.lt_of_lt_of_le (Heap.lt_size e) z) (Nat.lt_irrefl _)
  have cellK : ∀ x c, X.env.cells.lookup x = some c → ∀ v, s.heap.IsCell c v → h'.IsCell c v := fun x c e v ⟨o, ho, hd⟩ => by
    have nch : c ∉ ch := fun z => (hch c z).2.2.1 x c e rfl
    by_cases hc : c ∈ X.fs
    · obtain ⟨sl, q⟩ := slot c o (I.cne x c e) hc nch ho (I.freeC x c e)
      exact ⟨_, q, hd⟩
    · exact ⟨o, keep c o (I.cne x c e) hc nch ho (I.freeC x c e), hd⟩
  refine ⟨I.ok, I.os, hg, ⟨fun b o e n hb hx => ?_, fun b o e n hb hx => ?_, fun b o e n hx => ?_, fun b o e hx => ?_, fun b xs e => tups b xs (I.base.tups b xs e), fun b o xs e => frzs b o xs (I.base.frzs b o xs e), fun b ps e => ?_⟩, ?_, fun x c e => ?_, ?_, fun x c e => ?_, fun p hp => ?_, hok, I.len⟩
  · exact keep b o (neL b o e) hb (neC b o e hx) (I.base.keep b o e n hb hx) (I.base.free b o e n hx)
  · obtain ⟨sl, e1⟩ := I.base.slot b o e n hb hx
    obtain ⟨sl', e2⟩ := slot b _ (neL b o e) hb (neC b o e hx) e1 (I.base.free b o e n hx)
    exact ⟨sl', e2⟩
  · obtain ⟨o', e1⟩ := I.base.there b o e hx
    exact free b o' (neC b o e hx) e1 (I.base.free b o e n hx)
  · obtain ⟨o', e1⟩ := I.base.there b o e hx
    exact there b o' (neC b o e hx) e1
  · obtain ⟨m1, e1⟩ := I.base.tbls b ps e
    obtain ⟨m2, e2⟩ := tbls b _ e1
    exact ⟨m1 ++ m2, by rw [e2, Array.append_assoc]⟩
  · obtain ⟨m, hn, hl⟩ := I.loc
    refine ⟨m, ns m hn, fun i x v e1 e2 e3 => ?_⟩
    obtain ⟨u, r, l⟩ := hl i x v e1 e2 e3
    refine ⟨u, r, ?_⟩
    rcases l with l | ⟨k, c, e, z⟩
    · exact .inl l
    · exact .inr ⟨k, c, e, cellK x c e _ z⟩
  · obtain ⟨v, z⟩ := I.cell x c e
    exact ⟨v, cellK x c e v z⟩
  · obtain ⟨m, ⟨o, _, _, ho, _⟩, _⟩ := I.loc
    exact free _ o (fun z => (hch _ z).2.1 rfl) ho I.free
  · obtain ⟨v, o, ho, hd⟩ := I.cell x c e
    exact free c o (fun z => (hch c z).2.2.1 x c e rfl) ho (I.freeC x c e)
  · obtain ⟨e, n, ne, nf, d⟩ := I.pin p hp
    have nch : p.1 ∉ ch := fun z => (hch p.1 z).2.2.2 p hp rfl
    exact ⟨keep p.1 p.2 ne nf nch e n, free p.1 p.2 nch e n, ne, nf, d⟩
theorem Inv.un {t' : Nat} (I : Inv X pins σ H s) (u : Un X.fs [] H H' s.heap h') (hok : HOk X.prog X.w H' h') : Inv X pins σ H' { s with heap := h', toks := t' } := by
  obtain ⟨m, ⟨o, es, ep, ho, r⟩, _⟩ := id I.loc
  obtain ⟨sl, hL⟩ := u.any ho I.free (by simp)
  exact I.step (g' := s.gens) (d' := s.drawn) (ch := []) (fun _ z => nomatch z) (fun b o _ hb _ e n => u.keep b o e n hb (by simp)) (fun b o _ hb _ e n => u.slot b o e n hb (by simp)) (fun b o _ e n => u.free b o e n (by simp)) (fun b o _ e => u.there b o e (by simp)) u.tups u.frzs u.tbls (fun m' hm => by
    obtain ⟨o', es', ep', ho', r'⟩ := hm
    rw [ho] at ho'; cases ho'
    exact ⟨_, es', ep', hL, r'⟩) hok I.bare
theorem Inv.call {g' : Array GenState} {t' : Nat} {d' : Drawn} {ch : List Addr} (I : Inv X pins σ H s) (u : Un (frs X.stack) ch H H' s.heap h') (hok : HOk X.prog X.w H' h') (hg : AllBare g')
    (hch : ∀ b ∈ ch, (b ∈ X.ex ∨ X.s_0.heap.objs.size ≤ b) ∧ b ≠ X.env.locals ∧ (∀ x c, X.env.cells.lookup x = some c → c ≠ b) ∧ ∀ p ∈ X.pn ++ pins, p.1 ≠ b) :
    Inv X pins σ H' { s with heap := h', gens := g', drawn := d', toks := t' } := by
  obtain ⟨m, ⟨o, es, ep, ho, r⟩, _⟩ := id I.loc
  obtain ⟨sl, hL⟩ := u.any ho I.free fun z => (hch _ z).2.1 rfl
  exact I.step (ch := ch) hch (fun b o hL hb hc e n => u.keep b o e n (fun z => (List.mem_cons.mp (I.stkSub b z)).elim hL hb) hc) (fun b o _ _ hc e n => u.any e n hc) (fun b o hc e n => u.free b o e n hc) (fun b o hc e => u.there b o e hc) u.tups u.frzs u.tbls (fun m' hm => by
    obtain ⟨o', es', ep', ho', r'⟩ := hm
    rw [ho] at ho'; cases ho'
    exact ⟨_, es', ep', hL, r'⟩) hok hg
theorem Inv.turned {t' : Nat} {it : Addr} (I : Inv X pins σ H s) (k : ∀ b o, b ≠ it → s.heap.get? b = some o → h'.get? b = some o) (hn : H it = none) (hL : it ≠ X.env.locals)
    (h1 : it ∈ X.ex ∨ X.s_0.heap.objs.size ≤ it) (h2 : ∀ x c, X.env.cells.lookup x = some c → c ≠ it) (h3 : ∀ p ∈ X.pn ++ pins, p.1 ≠ it) : Inv X pins σ H { s with heap := h', toks := t' } := by
  have nit : ∀ b u, H b = some u → b ≠ it := fun b u e z => by rw [z, hn] at e; cases e
  refine I.step (g' := s.gens) (d' := s.drawn) (ch := [it]) (fun b hb => ?_) (fun b o _ _ hc e _ => k b o (fun z => hc (by simp [z])) e) (fun b o _ _ hc e _ => ⟨o.slots, k b o (fun z => hc (by simp [z])) e⟩) (fun _ _ _ _ n => n)
    (fun b o hc e => ⟨o, k b o (fun z => hc (by simp [z])) e⟩) (fun _ _ e => e) (fun _ _ _ e => e) (fun b ps e => ⟨#[], by rw [e]; simp⟩) (fun m hm => ?_) (fun b u e => ?_) I.bare
  · have e : b = it := by simpa using hb
    subst e
    exact ⟨h1, hL, h2, h3⟩
  · obtain ⟨o, es, ep, ho, r⟩ := hm
    exact ⟨o, es, ep, k _ o (Ne.symm hL) ho, r⟩
  · refine (I.hok b u e).stay (fun c v hc q => k c v ?_ q) (fun _ q => q) fun _ _ q => q
    rcases hc with z | z
    · rw [z]; exact nit b u e
    · exact nit c _ z
theorem Inv.tok (I : Inv X pins σ H s) (t : Nat) : Inv X pins σ H { s with toks := t } := I.un (h' := s.heap) (t' := t) Un.refl I.hok
theorem Inv.kept {t' : Nat} (I : Inv X pins σ H s) (k : ∀ b u, s.heap.get? b = some u → h'.get? b = some u) : Inv X pins σ H { s with heap := h', toks := t' } := I.un (Un.kept k) (I.hok.kept k)
theorem Inv.laid {a : Addr} {o : HO} {t' : Nat} (I : Inv X pins σ H s) (k : ∀ b u, s.heap.get? b = some u → h'.get? b = some u) (hp : s.heap.objs.size ≤ a) (new : ObjOk X.prog X.w (upd H a o) h' a o) :
    Inv X pins σ (upd H a o) { s with heap := h', toks := t' } := I.un (Un.laid k hp (I.hok.fresh hp)) (I.hok.laid k hp new)
theorem Inv.write {x e : Addr} {o : HO} {t' : Nat} (I : Inv X pins σ H s) (mu : Mut (H x)) (he : e = x ∨ H e = some (.own x)) (k : ∀ b u, b ≠ e → s.heap.get? b = some u → h'.get? b = some u) (heo : ∃ u, h'.get? e = some u)
    (new : ObjOk X.prog X.w (upd H x o) h' x o) : Inv X pins σ (upd H x o) { s with heap := h', toks := t' } := I.un (Un.write mu he k heo) (I.hok.write mu he k heo new)
theorem Inv.weak {σ' : List (Option V)} (I : Inv X pins σ H s) (hl : σ'.length = σ.length) (w : ∀ (i : Nat) v, σ'[i]? = some (some v) → σ[i]? = some (some v)) : Inv X pins σ' H s :=
  ⟨I.ok, I.os, I.bare, I.base, let ⟨m, hn, hl'⟩ := I.loc; ⟨m, hn, fun i x v e1 e2 e3 => hl' i x v e1 (w i v e2) e3⟩, I.cell, I.free, I.freeC, I.pin, I.hok, hl.trans I.len⟩
theorem Inv.pins_of {pins' : List (Addr × Obj)} (I : Inv X pins σ H s) (h : ∀ p ∈ pins', s.heap.get? p.1 = some p.2 ∧ H p.1 = none ∧ p.1 ≠ X.env.locals ∧ p.1 ∉ X.fs ∧ ∀ v, p.2.data ≠ .cell v) : Inv X pins' σ H s :=
  ⟨I.ok, I.os, I.bare, I.base, I.loc, I.cell, I.free, I.freeC, fun p hp => (List.mem_append.mp hp).elim (fun z => I.pin p (List.mem_append_left _ z)) (h p), I.hok, I.len⟩
theorem nodup_ix {N : List Str} (hN : N.Nodup) {i j : Nat} {x : Str} (a : N[i]? = some x) (b : N[j]? = some x) : i = j := by
  obtain ⟨h1, e1⟩ := List.getElem?_eq_some_iff.mp a
  obtain ⟨h2, e2⟩ := List.getElem?_eq_some_iff.mp b
  exact (List.getElem_inj hN).mp (e1.trans e2.symm)
theorem store_ok2 {M : Model} {A : Around} {E : Value → Shared → Prop} {i : Nat} {x : Str} {v : V} {u : Value} {Q : Unit → Shared → Prop} (I : Inv X pins σ H s) (hN : X.N.Nodup) (hi : X.N[i]? = some x) (hx : Loc X.env.scope x) (r : RelV v u)
    (h : ∀ s', Inv X pins (σ.set i (some v)) H s' → (∃ a, Heap.SameBut a s.heap s'.heap ∧ (a = X.env.locals ∨ X.env.cells.lookup x = some a)) → Q () s') (hf : X.fn x = true ∨ X.env.scope.names.lookup x = some .local := by first | exact .inl rfl | exact .inr rfl | assumption) : wpAny M A (storeName X.env x u) Q E s := by
  obtain ⟨m, hn, hl⟩ := id I.loc
  have hcls : (X.env.scope.kind == .class || (X.env.scope.kind == .module && X.env.locals != X.env.globals)) = false := by rw [I.ok.kind]; rfl
  have hiσ : i < σ.length := by rw [I.len]; exact (List.getElem?_eq_some_iff.mp hi).1
  have cne := I.cne
  have tracked : ∀ {a : Addr} {h' : Heap}, (∃ o, s.heap.get? a = some o ∧ H a = none) → Heap.SameBut a s.heap h' → HOk X.prog X.w H h' := fun {a h'} ha hs b ob e => by
    obtain ⟨_, _, hfree⟩ := ha
    refine (I.hok b ob e).stay (fun c w' hc q => (hs.2 c ?_).trans q) (fun _ q => q) fun _ _ q => q
    rintro rfl
    rcases hc with rfl | hc
    · rw [hfree] at e; cases e
    · rw [hfree] at hc; cases hc
  rcases hx with hk | hk
  · refine wpAny_storeName_local hk hn (fun h' hn' hs => ?_) hcls
    obtain ⟨oL, _, _, hoL, _⟩ := id hn
    refine h _ ⟨I.ok, I.os, I.bare, ⟨fun b o e n hb hx => ?_, fun b o e n hb hx => ?_, I.base.free, fun b o e hx => ?_, I.base.tups, I.base.frzs, I.base.tbls⟩, ⟨_, hn', fun j y v' e1 e2 e3 => ?_⟩, fun y c e => ?_, I.free, I.freeC, fun p hp => ?_, tracked ⟨oL, hoL, I.free⟩ hs, by simpa using I.len⟩ ⟨_, hs, .inl rfl⟩
    · exact (hs.2 b (Nat.ne_of_lt (Nat.lt_of_lt_of_le (Heap.lt_size e) I.ok.above))).trans (I.base.keep b o e n hb hx)
    · obtain ⟨sl, e1⟩ := I.base.slot b o e n hb hx
      exact ⟨sl, (hs.2 b (Nat.ne_of_lt (Nat.lt_of_lt_of_le (Heap.lt_size e) I.ok.above))).trans e1⟩
    · obtain ⟨o', e1⟩ := I.base.there b o e hx
      exact ⟨o', (hs.2 b (Nat.ne_of_lt (Nat.lt_of_lt_of_le (Heap.lt_size e) I.ok.above))).trans e1⟩
    · by_cases hj : j = i
      · subst hj
        rw [hi] at e1; cases e1
        rw [List.getElem?_set_self hiσ] at e2
        cases e2
        exact ⟨u, r, .inl ⟨hk, by simp⟩⟩
      · rw [List.getElem?_set_ne (Ne.symm hj)] at e2
        obtain ⟨u', r', q⟩ := hl j y v' e1 e2 e3
        refine ⟨u', r', ?_⟩
        rcases q with ⟨k, e⟩ | ⟨k, c, e, z⟩
        · refine .inl ⟨k, ?_⟩
          have : y ≠ x := fun e => hj (nodup_ix hN e1 (e ▸ hi))
          simp [this, e]
        · exact .inr ⟨k, c, e, z.sameBut hs (cne y c e)⟩
    · obtain ⟨w', z⟩ := I.cell y c e
      exact ⟨w', z.sameBut hs (cne y c e)⟩
    · obtain ⟨e, n, ne, nf, d⟩ := I.pin p hp
      exact ⟨(hs.2 p.1 ne).trans e, n, ne, nf, d⟩
  · have hfn : X.fn x = true := by
      rcases hf with z | z
      · exact z
      · rw [z] at hk; cases hk
    obtain ⟨c, hc⟩ := I.ok.has x (.inl hk)
    obtain ⟨w', z⟩ := I.cell x c hc
    refine wpAny_storeName_cell I.ok.kind hk hc z (fun h' hc' hs => ?_)
    obtain ⟨oc, hoc, hocd⟩ := id z
    refine h { s with heap := h' } ⟨I.ok, I.os, I.bare, ⟨fun b o e n hb hx => ?_, fun b o e n hb hx => ?_, I.base.free, fun b o e hx => ?_, I.base.tups, I.base.frzs, I.base.tbls⟩, ⟨m, hn.sameBut hs (Ne.symm (cne x c hc)), fun j y v' e1 e2 e3 => ?_⟩, fun y c' e => ?_, I.free, I.freeC, fun p hp => ?_, tracked ⟨oc, hoc, I.freeC x c hc⟩ hs, by simpa using I.len⟩ ⟨c, hs, .inr hc⟩
    · exact (hs.2 b (Nat.ne_of_lt (Nat.lt_of_lt_of_le (Heap.lt_size e) (I.ok.cab x c hfn hc)))).trans (I.base.keep b o e n hb hx)
    · obtain ⟨sl, e1⟩ := I.base.slot b o e n hb hx
      exact ⟨sl, (hs.2 b (Nat.ne_of_lt (Nat.lt_of_lt_of_le (Heap.lt_size e) (I.ok.cab x c hfn hc)))).trans e1⟩
    · obtain ⟨o', e1⟩ := I.base.there b o e hx
      exact ⟨o', (hs.2 b (Nat.ne_of_lt (Nat.lt_of_lt_of_le (Heap.lt_size e) (I.ok.cab x c hfn hc)))).trans e1⟩
    · by_cases hj : j = i
      · subst hj
        rw [hi] at e1; cases e1
        rw [List.getElem?_set_self hiσ] at e2
        cases e2
        exact ⟨u, r, .inr ⟨.inl hk, c, hc, hc'⟩⟩
      · rw [List.getElem?_set_ne (Ne.symm hj)] at e2
        obtain ⟨u', r', q⟩ := hl j y v' e1 e2 e3
        refine ⟨u', r', ?_⟩
        rcases q with q | ⟨k, c', e, z'⟩
        · exact .inl q
        · refine .inr ⟨k, c', e, z'.sameBut hs ?_⟩
          rintro rfl
          exact hj (nodup_ix hN e1 (I.ok.inj _ _ _ e hc ▸ hi))
    · by_cases hcc : c' = c
      · subst hcc; exact ⟨_, hc'⟩
      · obtain ⟨w2, z2⟩ := I.cell y c' e
        exact ⟨w2, z2.sameBut hs hcc⟩
    · obtain ⟨e, n, ne, nf, d⟩ := I.pin p hp
      refine ⟨(hs.2 p.1 ?_).trans e, n, ne, nf, d⟩
      intro q
      rw [q, hoc] at e
      have q' : oc = p.2 := Option.some.inj e
      exact d w' (by rw [← q']; exact hocd)
theorem store_ok {M : Model} {A : Around} {E : Value → Shared → Prop} {i : Nat} {x : Str} {v : V} {u : Value} {Q : Unit → Shared → Prop} (I : Inv X pins σ H s) (hN : X.N.Nodup) (hi : X.N[i]? = some x) (hx : Loc X.env.scope x) (r : RelV v u)
    (h : ∀ s', Inv X pins (σ.set i (some v)) H s' → Q () s') (hf : X.fn x = true ∨ X.env.scope.names.lookup x = some .local := by first | exact .inl rfl | exact .inr rfl | assumption) : wpAny M A (storeName X.env x u) Q E s :=
  store_ok2 I hN hi hx r (fun s' I' _ => h s' I') hf
theorem Inv.call' {s' : Shared} {ch : List Addr} (I : Inv X pins σ H s) (ho : s'.os = s.os) (u : Un (frs X.stack) ch H H' s.heap s'.heap) (hok : HOk X.prog X.w H' s'.heap) (hg : AllBare s'.gens)
    (hch : ∀ b ∈ ch, (b ∈ X.ex ∨ X.s_0.heap.objs.size ≤ b) ∧ b ≠ X.env.locals ∧ (∀ x c, X.env.cells.lookup x = some c → c ≠ b) ∧ ∀ p ∈ X.pn ++ pins, p.1 ≠ b) : Inv X pins σ H' s' := by
  obtain ⟨h', g', d', t', o'⟩ := s'
  have e : o' = s.os := ho
  subst e
  exact I.call (g' := g') (t' := t') (d' := d') u hok hg hch
end
abbrev XK := Value → Option Addr → Hp → Prop
abbrev St := List (Option V)
abbrev VK := V → Hp → Prop
abbrev TE := St → Hp → VK → Prop
abbrev TT := St → Hp → (Bool → Hp → Prop) → Prop
abbrev TA := St → Hp → (List V → Hp → Prop) → Prop
structure Ends where
  nx : St → Hp → Prop
  rt : VK
  bk : St → Hp → Prop := fun _ _ => False
  ct : St → Hp → Prop := fun _ _ => False
abbrev TS := Ends → St → Hp → Prop
def EP (X : Cx) (pins : List (Addr × Obj)) (σ : St) (Q : VK) (u : Value) (s' : Shared) : Prop := ∃ v H', Inv X pins σ H' s' ∧ RelV v u ∧ Q v H'
def TP (X : Cx) (pins : List (Addr × Obj)) (σ : St) (Q : Bool → Hp → Prop) (b : Bool) (s' : Shared) : Prop := ∃ H', Inv X pins σ H' s' ∧ Q b H'
def AP (X : Cx) (pins : List (Addr × Obj)) (σ : St) (Q : List V → Hp → Prop) (us : List Value) (s' : Shared) : Prop := ∃ vs H', Inv X pins σ H' s' ∧ Vals vs us ∧ Q vs H'
def SP (X : Cx) (pins : List (Addr × Obj)) (D : Ends) (f : Flow) (s' : Shared) : Prop :=
  match f with
  | .next => ∃ σ' H', Inv X pins σ' H' s' ∧ D.nx σ' H'
  | .brk => ∃ σ' H', Inv X pins σ' H' s' ∧ D.bk σ' H'
  | .cont => ∃ σ' H', Inv X pins σ' H' s' ∧ D.ct σ' H'
  | .ret u => ∃ v σ' H', Inv X pins σ' H' s' ∧ RelV v u ∧ D.rt v H'
def PE (X : Cx) (e : Expr) (t : TE) : Prop :=
  ∀ (pins : List (Addr × Obj)) (s : Shared) (σ : St) (H : Hp) (Q : VK), Inv X pins σ H s → t σ H Q → wpAny (model X.prog X.w) X.A (eval e X.env) (EP X pins σ Q) X.xe s
def PT (X : Cx) (e : Expr) (t : TT) : Prop :=
  ∀ (pins : List (Addr × Obj)) (s : Shared) (σ : St) (H : Hp) (Q : Bool → Hp → Prop), Inv X pins σ H s → t σ H Q → wpAny (model X.prog X.w) X.A (isTrue e X.env (eval e X.env)) (TP X pins σ Q) X.xe s
def PW (X : Cx) (e : Expr) (t : TT) : Prop :=
  ∀ (whole : Sem Value) (pins : List (Addr × Obj)) (s : Shared) (σ : St) (H : Hp) (Q : Bool → Hp → Prop), Inv X pins σ H s → t σ H Q → wpAny (model X.prog X.w) X.A (isTrue e X.env whole) (TP X pins σ Q) X.xe s
theorem PW.pt {X : Cx} {e : Expr} {t : TT} (h : PW X e t) : PT X e t := h _
def PA (X : Cx) (es : List Expr) (t : TA) : Prop :=
  ∀ (pos : Pos) (pins : List (Addr × Obj)) (s : Shared) (σ : St) (H : Hp) (Q : List V → Hp → Prop), Inv X pins σ H s → t σ H Q → wpAny (model X.prog X.w) X.A (spliced (backTo pos (starEach es X.env))) (AP X pins σ Q) X.xe s
def PS (X : Cx) (st : Stmt) (t : TS) : Prop :=
  ∀ (pins : List (Addr × Obj)) (s : Shared) (σ : St) (H : Hp) (D : Ends), Inv X pins σ H s → t D σ H → wpAny (model X.prog X.w) X.A (exec st X.env) (SP X pins D) X.xe s
def PSs (X : Cx) (st : List Stmt) (t : TS) : Prop :=
  ∀ (pins : List (Addr × Obj)) (s : Shared) (σ : St) (H : Hp) (D : Ends), Inv X pins σ H s → t D σ H → wpAny (model X.prog X.w) X.A (execs st X.env) (SP X pins D) X.xe s
theorem thn {α : Type} {t : Sem α} {Q Q' : α → Shared → Prop} {M : Model} {A : Around} {E : Value → Shared → Prop} {s : Shared} (h : wpAny M A t Q E s) (hQ : ∀ a s, Q a s → Q' a s) : wpAny M A t Q' E s := wpAny_mono h hQ fun _ _ x => x
end L2
namespace L2
open PySem PySem.Spec PyProof.Rows
section
variable {X : Cx}
def tVar (i : Nat) : TE := fun σ H Q => ∃ v, σ[i]? = some (some v) ∧ Q v H
def tC (v : V) : TE := fun _ H Q => Q v H
theorem pe_var {i : Nat} {x : Str} {pos : Pos} (hN : X.N[i]? = some x) (hv : Vis X.env.scope x) (hd : (x == ("__debug__" : Str)) = false := by decide) (hcd : (x == ("__classdict__" : Str)) = false := by decide) : PE X (.Name x pos) (tVar i) := by
  intro pins s σ H Q I h
  obtain ⟨v, e, h⟩ := h
  obtain ⟨m, hn, hl⟩ := I.loc
  obtain ⟨u, r, l⟩ := hl i x v hN e hv
  have fin : EP X pins σ Q u s := ⟨v, H, I, r, h⟩
  rcases l with ⟨hk, hm⟩ | ⟨hk, c, hc, hcell⟩
  · exact wpAny_Name (wpAny_loadName_local I.ok.kind hk hn hm fin) hd
  · rcases hk with hk | hk
    · exact wpAny_Name (wpAny_loadName_cell I.ok.kind hk hc hcell fin) hd
    · exact wpAny_Name (wpAny_loadName_free I.ok.kind hk hc hcell fin hcd) hd
theorem pe_int {i j pos} : PE X (.Constant (.int i) j pos) (tC (.int i)) := fun _ _ _ H _ I h => wpAny_Constant_int ⟨.int i, H, I.tok _, ⟨_, rfl⟩, h⟩
theorem pe_bl {b j pos} : PE X (.Constant (.bool b) j pos) (tC (.bl b)) := fun _ _ _ H _ I h => Constant_bool ⟨.bl b, H, I, rfl, h⟩
theorem pe_non {j pos} : PE X (.Constant .none j pos) (tC .non) := fun _ _ _ H _ I h => Constant_none ⟨.non, H, I, rfl, h⟩
def Gl (X : Cx) (x : Str) : Prop := X.env.kindOf x = some .globalImplicit
theorem ld_glob {E : Value → Shared → Prop} {pins : List (Addr × Obj)} {s : Shared} {σ : St} {H : Hp} {x : Str} {u : Value} {pos : Pos} {Q : Value → Shared → Prop} (I : Inv X pins σ H s) (hg : Gl X x) (hm : X.mg x = some u) (h : Q u s)
    (hd : (x == ("__debug__" : Str)) = false := by decide) : wpAny (model X.prog X.w) X.A (eval (.Name x pos) X.env) Q E s :=
  Calls.Name_function_global I.ok.kind hg (Calls.loadGlobal_global (by rw [I.ok.glob]; exact I.mod.glob.keeps I.bk) hm h) hd
theorem ld_blt {E : Value → Shared → Prop} {pins : List (Addr × Obj)} {s : Shared} {σ : St} {H : Hp} {x : Str} {u : Value} {pos : Pos} {Q : Value → Shared → Prop} (I : Inv X pins σ H s) (hg : Gl X x) (hm : X.mg x = none) (hv : bootBuiltins x = some u) (h : Q u s)
    (hn : x ≠ "__name__" := by decide) (hd : (x == ("__debug__" : Str)) = false := by decide) : wpAny (model X.prog X.w) X.A (eval (.Name x pos) X.env) Q E s := by
  obtain ⟨mb, h1, h2⟩ := I.mod.blt
  exact Calls.Name_function_global I.ok.kind hg (Calls.loadGlobal_builtin (by rw [I.ok.glob]; exact I.mod.glob.keeps I.bk) hm (by rw [I.ok.blt]; exact h1.keeps I.bk) ((h2 x hn).trans hv) h) hd
variable {a b : Expr} {ta tb : TE} {pos : Pos}
def tB (t : TE) : TT := fun σ H Q => t σ H fun x H1 => ∃ c, x = .bl c ∧ Q c H1
theorem pt_val {e : Expr} {t : TE} (h : PE X e t) (he : ∀ whole, isTrue e X.env whole = (do let v ← whole; standAt e.pos; holding [v] (truthy v)) := by intro _; rfl) : PT X e (tB t) := by
  intro pins s σ H Q I hw
  refine isTrue_plain (thn (h pins s σ H _ I hw) fun v s1 ⟨x, H1, I1, r1, q1⟩ => ?_) (he _)
  obtain ⟨d, rfl, q⟩ := q1
  cases r1
  exact wpAny_truthy_bool ⟨H1, I1, q⟩
variable {tA tB' : TT} {rest : List Expr}
def tAnd (t u : TT) : TT := fun σ H Q => t σ H fun c H1 => if c = true then u σ H1 Q else Q false H1
theorem pw_and1 (ha : PT X a tA) : PW X (.BoolOp .And [a] pos) tA := by
  intro wh pins s σ H Q I h
  refine isTrue_and (thn (ha pins s σ H Q I h) fun c s1 e => ?_)
  cases c with
  | true => exact isTrue_and_nil e
  | false => exact e
theorem pw_and (ha : PT X a tA) (hb : PW X (.BoolOp .And (b :: rest) pos) tB') : PW X (.BoolOp .And (a :: b :: rest) pos) (tAnd tA tB') := by
  intro wh pins s σ H Q I h
  refine isTrue_and (thn (ha pins s σ H _ I h) fun c s1 ⟨H1, I1, q1⟩ => ?_)
  cases c with
  | true => exact hb wh pins s1 σ H1 Q I1 q1
  | false => exact ⟨H1, I1, q1⟩
def tIf (t : TT) (ta tb : TE) : TE := fun σ H Q => t σ H fun c H1 => if c = true then ta σ H1 Q else tb σ H1 Q
theorem pe_ifExp {c : Expr} (hc : PT X c tA) (ha : PE X a ta) (hb : PE X b tb) : PE X (.IfExp c a b pos) (tIf tA ta tb) := by
  intro pins s σ H Q I h
  refine wpAny_IfExp (thn (hc pins s σ H _ I h) fun d s1 ⟨H1, I1, q1⟩ => ?_)
  cases d with
  | true => exact ha pins s1 σ H1 Q I1 q1
  | false => exact hb pins s1 σ H1 Q I1 q1
end
end L2
namespace L2
open PySem PySem.Spec PyProof.Rows
def SqL (K : PySem.W.Frag) (H : Hp) (a : Addr) (xs : List V) : Prop :=
  Rd H a (.lst xs) ∨
    ∃ (o : Obj) (its : Array Value) (n : Nat), K.lookup a = some o ∧ o.cls = .type "list" ∧ o.dict = none ∧ o.data = .seq its n ∧ its.size ≤ sizeLine ∧ Vals xs its.toList
def SqT (K : PySem.W.Frag) (H : Hp) (a : Addr) (xs : List V) : Prop :=
  Rd H a (.tup xs) ∨
    ∃ (o : Obj) (its : Array Value) (n : Nat), K.lookup a = some o ∧ o.cls = .type "tuple" ∧ o.data = .seq its n ∧ its.size ≤ sizeLine ∧ Vals xs its.toList
def absV : Value → Option V
  | .none => some .non
  | .bool b => some (.bl b)
  | .int i _ => some (.int i)
  | .str x _ => some (.str x)
  | .bytes b _ => some (.byt b)
  | .float b _ => some (.flt b)
  | .ref a => some (.ref a)
  | .type n => some (.ty n)
  | _ => none
theorem RelV.abs {x : V} {u : Value} (r : RelV x u) : absV u = some x := by
  cases x with
  | non => cases r; rfl
  | bl _ => cases r; rfl
  | int _ => obtain ⟨t, rfl⟩ := r; rfl
  | str _ => obtain ⟨t, rfl⟩ := r; rfl
  | byt _ => obtain ⟨t, rfl⟩ := r; rfl
  | flt _ => obtain ⟨t, rfl⟩ := r; rfl
  | ref _ => cases r; rfl
  | ty _ => cases r; rfl
theorem RelV.inj {x y : V} {u : Value} (r : RelV x u) (q : RelV y u) : x = y := Option.some.inj (r.abs.symm.trans q.abs)
theorem Vals.inj : ∀ {xs ys : List V} {us : List Value}, Vals xs us → Vals ys us → xs = ys
  | _, _, _, .nil, .nil => rfl
  | _, _, _, .cons r t, .cons r' t' => by rw [r.inj r', Vals.inj t t']
section
variable {X : Cx} {pins : List (Addr × Obj)} {σ : St} {H : Hp} {s : Shared} {a : Addr} {xs ys : List V}
theorem SqL.of {K : PySem.W.Frag} (h : H a = some (.lst xs)) : SqL K H a xs := .inl (.inl h)
theorem SqT.of {K : PySem.W.Frag} (h : H a = some (.tup xs)) : SqT K H a xs := .inl (.inl h)
theorem Inv.list (I : Inv X pins σ H s) (h : SqL X.K H a xs) : ∃ its : List Value, Vals xs its ∧ PlainL s.heap a its.toArray ∧ xs.length ≤ sizeLine := by
  rcases h with h | ⟨o, its, n, hk, hc, hd, hs, hz, r⟩
  · obtain ⟨z, its, n, r, e⟩ := h.ok I.hok
    exact ⟨its, r, ⟨_, n, e, rfl, rfl, rfl⟩, z⟩
  · refine ⟨its.toList, r, ⟨o, n, I.kIn a o hk, hc, hd, by simpa using hs⟩, ?_⟩
    have e := r.length
    simp only [Array.length_toList] at e
    omega
theorem Inv.tuple (I : Inv X pins σ H s) (h : SqT X.K H a xs) : ∃ its : List Value, Vals xs its ∧ IsTup s.heap a its.toArray ∧ xs.length ≤ sizeLine := by
  rcases h with h | ⟨o, its, n, hk, hc, hs, hz, r⟩
  · obtain ⟨z, its, r, p⟩ := h.ok I.hok
    exact ⟨its, r, p.is, z⟩
  · refine ⟨its.toList, r, ⟨o, I.kIn a o hk, hc, n, by simpa using hs⟩, ?_⟩
    have e := r.length
    simp only [Array.length_toList] at e
    omega
theorem Inv.list_inj (I : Inv X pins σ H s) (h : SqL X.K H a xs) (h' : SqL X.K H a ys) : xs = ys := by
  obtain ⟨its, r, ⟨o, n, e, _, _, d⟩, _⟩ := I.list h
  obtain ⟨its', r', ⟨o', n', e', _, _, d'⟩, _⟩ := I.list h'
  rw [e] at e'; cases e'
  rw [d] at d'
  injection d' with d1 _
  have : its = its' := by simpa using congrArg Array.toList d1
  subst this
  exact r.inj r'
theorem Inv.tuple_inj (I : Inv X pins σ H s) (h : SqT X.K H a xs) (h' : SqT X.K H a ys) : xs = ys := by
  obtain ⟨its, r, ⟨o, e, _, n, d⟩, _⟩ := I.tuple h
  obtain ⟨its', r', ⟨o', e', _, n', d'⟩, _⟩ := I.tuple h'
  rw [e] at e'; cases e'
  rw [d] at d'
  injection d' with d1 _
  have : its = its' := by simpa using congrArg Array.toList d1
  subst this
  exact r.inj r'
end
abbrev Cx.wish (X : Cx) (E : Value → Shared → Prop) : Cx := { X with xe := E }
abbrev Cx.nox (X : Cx) : Cx := X.wish fun _ _ => False
theorem Cx.Ok.wish {X : Cx} (ok : X.Ok) (E : Value → Shared → Prop) : (X.wish E).Ok :=
  ⟨ok.mod, ok.kind, ok.glob, ok.blt, ok.above, ok.inj, ok.has, ok.cab, ok.hd, ok.frames, ok.stk, ok.exf, ok.bs, ok.bsz, ok.noex, ok.exfs, ok.funs, ok.frf⟩
theorem Cx.Ok.unwish {X : Cx} {E : Value → Shared → Prop} (ok : (X.wish E).Ok) : X.Ok :=
  ⟨ok.mod, ok.kind, ok.glob, ok.blt, ok.above, ok.inj, ok.has, ok.cab, ok.hd, ok.frames, ok.stk, ok.exf, ok.bs, ok.bsz, ok.noex, ok.exfs, ok.funs, ok.frf⟩
section
variable {X : Cx} {pins : List (Addr × Obj)} {σ : St} {H : Hp} {s : Shared} {E : Value → Shared → Prop}
theorem Inv.wish (I : Inv X pins σ H s) (E : Value → Shared → Prop) : Inv (X.wish E) pins σ H s := ⟨I.ok.wish E, I.os, I.bare, I.base, I.loc, I.cell, I.free, I.freeC, I.pin, I.hok, I.len⟩
theorem Inv.unwish (I : Inv (X.wish E) pins σ H s) : Inv X pins σ H s := ⟨I.ok.unwish, I.os, I.bare, I.base, I.loc, I.cell, I.free, I.freeC, I.pin, I.hok, I.len⟩
theorem SP.unwish {D : Ends} {f : Flow} {s' : Shared} (h : SP (X.wish E) pins D f s') : SP X pins D f s' := by
  cases f with
  | next => obtain ⟨σ', H', I, q⟩ := h; exact ⟨σ', H', I.unwish, q⟩
  | brk => obtain ⟨σ', H', I, q⟩ := h; exact ⟨σ', H', I.unwish, q⟩
  | cont => obtain ⟨σ', H', I, q⟩ := h; exact ⟨σ', H', I.unwish, q⟩
  | ret u => obtain ⟨v, σ', H', I, r, q⟩ := h; exact ⟨v, σ', H', I.unwish, r, q⟩
theorem PE.nox {e : Expr} {t : TE} (h : PE X.nox e t) : PE X e t := fun pins s σ H Q I hw =>
  wpAny_mono (h pins s σ H Q (I.wish _) hw) (fun _ _ ⟨v, H', I', r, q⟩ => ⟨v, H', I'.unwish, r, q⟩) fun _ _ z => False.elim z
theorem PT.nox {e : Expr} {t : TT} (h : PT X.nox e t) : PT X e t := fun pins s σ H Q I hw =>
  wpAny_mono (h pins s σ H Q (I.wish _) hw) (fun _ _ ⟨H', I', q⟩ => ⟨H', I'.unwish, q⟩) fun _ _ z => False.elim z
theorem PSs.nox {st : List Stmt} {t : TS} (h : PSs X.nox st t) : PSs X st t := fun pins s σ H D I hw =>
  wpAny_mono (h pins s σ H D (I.wish _) hw) (fun _ _ q => q.unwish) fun _ _ z => False.elim z
end
section
variable {X : Cx} {st : Stmt} {rest : List Stmt} {t u : TS} {e : Expr} {te : TE} {pos : Pos}
def tNext : TS := fun D σ H => D.nx σ H
def tSeq (t u : TS) : TS := fun D σ H => t { D with nx := u D } σ H
theorem pss_nil : PSs X [] tNext := fun _ _ σ H _ I h => wpAny_execs_nil ⟨σ, H, I, h⟩
theorem pss_cons (h1 : PS X st t) (h2 : PSs X rest u) : PSs X (st :: rest) (tSeq t u) := by
  intro pins s σ H D I h
  refine wpAny_execs_cons (thn (h1 pins s σ H { D with nx := u D } I h) fun f s1 q => ?_)
  cases f with
  | next =>
    obtain ⟨σ', H', I', q⟩ := q
    exact h2 pins s1 σ' H' D I' q
  | ret v => exact q
  | brk => exact q
  | cont => exact q
theorem pss_one (h1 : PS X st t) : PSs X [st] t := by
  intro pins s σ H D I h
  refine wpAny_execs_cons (thn (h1 pins s σ H D I h) fun f s1 q => ?_)
  cases f with
  | next => exact wpAny_execs_nil q
  | ret v => exact q
  | brk => exact q
  | cont => exact q
theorem Inv.quiet {pins : List (Addr × Obj)} {σ : St} {H : Hp} {s : Shared} (I : Inv X pins σ H s) : interactive X.env = false := by simp [interactive, I.ok.kind]
def tDrop (te : TE) : TS := fun D σ H => te σ H fun _ H1 => D.nx σ H1
theorem ps_expr (he : PE X e te) (hs : swapsWith e none pos.line X.env = pure false := by rfl) : PS X (.Expr e pos) (tDrop te) := by
  intro pins s σ H D I h
  exact wpAny_Expr_any (thn (he pins s σ H _ I h) fun v s1 ⟨x, H1, I1, r1, q1⟩ => ⟨σ, H1, I1, q1⟩) I.quiet hs
def tRet (te : TE) : TS := fun D σ H => te σ H D.rt
theorem ps_ret (he : PE X e te) : PS X (.Return (some e) pos) (tRet te) := by
  intro pins s σ H D I h
  exact wpAny_Return_some (thn (he pins s σ H _ I h) fun v s1 ⟨x, H1, I1, r1, q1⟩ => ⟨x, σ, H1, I1, r1, q1⟩)
def tIfS (c : TT) (t u : TS) : TS := fun D σ H => c σ H fun b H1 => if b = true then t D σ H1 else u D σ H1
theorem ps_if {c : Expr} {a b : List Stmt} {tc : TT} (hc : PT X c tc) (ha : PSs X a t) (hb : PSs X b u) : PS X (.If c a b pos) (tIfS tc t u) := by
  intro pins s σ H D I h
  refine wpAny_If (thn (hc pins s σ H _ I h) fun d s1 ⟨H1, I1, q1⟩ => ?_)
  cases d with
  | true => exact ha pins s1 σ H1 D I1 q1
  | false => exact hb pins s1 σ H1 D I1 q1
end
abbrev TG := V → St → Hp → (St → Hp → Prop) → Prop
abbrev TGs := List V → St → Hp → (St → Hp → Prop) → Prop
def PG (X : Cx) (target : Expr) (t : TG) : Prop :=
  ∀ (pins : List (Addr × Obj)) (s : Shared) (σ : St) (H : Hp) (v : V) (u : Value) (Q : St → Hp → Prop), Inv X pins σ H s → RelV v u → t v σ H Q →
    wpAny (model X.prog X.w) X.A (assign target X.env u) (fun _ s' => ∃ σ' H', Inv X pins σ' H' s' ∧ Q σ' H') X.xe s
def PGs (X : Cx) (ts : List Expr) (t : TGs) : Prop :=
  ∀ (pins : List (Addr × Obj)) (s : Shared) (σ : St) (H : Hp) (vs : List V) (us : List Value) (Q : St → Hp → Prop), Inv X pins σ H s → Vals vs us → t vs σ H Q →
    wpAny (model X.prog X.w) X.A (assignInOrder ((assignEach ts X.env).map (·.2)) us) (fun _ s' => ∃ σ' H', Inv X pins σ' H' s' ∧ Q σ' H') X.xe s
abbrev TSet := V → V → V → Hp → (Hp → Prop) → Prop
def PSet (X : Cx) (t : TSet) : Prop :=
  ∀ (pins : List (Addr × Obj)) (s : Shared) (σ : St) (H : Hp) (o i v : V) (ov iv u : Value) (Q : Hp → Prop), Inv X pins σ H s → RelV o ov → RelV i iv → RelV v u → t o i v H Q →
    wpAny (model X.prog X.w) X.A (setItem ov iv u) (fun _ s' => ∃ H', Inv X pins σ H' s' ∧ Q H') X.xe s
abbrev TIp := V → V → Hp → VK → Prop
def PIp (X : Cx) (op : Operator) (t : TIp) : Prop :=
  ∀ (pins : List (Addr × Obj)) (s : Shared) (σ : St) (H : Hp) (x y : V) (v u : Value) (Q : VK), Inv X pins σ H s → RelV x v → RelV y u → t x y H Q →
    wpAny (model X.prog X.w) X.A (inplaceOp op v u) (EP X pins σ Q) X.xe s
section
variable {X : Cx} {pos : Pos}
def gName (i : Nat) : TG := fun v σ H Q => Q (σ.set i (some v)) H
theorem pg_name {i : Nat} {x : Str} (hN : X.N.Nodup) (hi : X.N[i]? = some x) (hx : Loc X.env.scope x) (hf : X.fn x = true ∨ X.env.scope.names.lookup x = some .local := by first | exact .inl rfl | exact .inr rfl | assumption) : PG X (.Name x pos) (gName i) := by
  intro pins s σ H v u Q I r h
  exact wpAny_assign_Name (store_ok I hN hi hx r (fun s' I' => ⟨_, H, I', h⟩) hf)
def gNil : TGs := fun vs σ H Q => vs = [] ∧ Q σ H
def gCons (t : TG) (u : TGs) : TGs := fun vs σ H Q => ∃ v r, vs = v :: r ∧ t v σ H fun σ' H' => u r σ' H' Q
theorem pgs_nil : PGs X [] gNil := by
  intro pins s σ H vs us Q I r h
  obtain ⟨e, h⟩ := h
  subst e
  cases r
  exact assignInOrder_nil ⟨σ, H, I, h⟩
theorem pgs_cons {e : Expr} {es : List Expr} {t : TG} {u : TGs} (h1 : PG X e t) (h2 : PGs X es u)
    (hs : (assignEach (e :: es) X.env).map (·.2) = assign e X.env :: (assignEach es X.env).map (·.2) := by rfl) : PGs X (e :: es) (gCons t u) := by
  intro pins s σ H vs us Q I r h
  obtain ⟨v, vr, e1, h⟩ := h
  subst e1
  cases r with
  | cons r rr =>
    rw [hs]
    refine assignInOrder_cons (thn (h1 pins s σ H _ _ _ I r h) fun _ s1 ⟨σ1, H1, I1, q1⟩ => ?_)
    exact h2 pins s1 σ1 H1 _ _ Q I1 rr q1
def gTup (K : PySem.W.Frag) (n : Nat) (t : TGs) : TG := fun v σ H Q => ∃ a xs, v = .ref a ∧ SqT K H a xs ∧ xs.length = n ∧ t xs σ H Q
theorem pg_tup {es : List Expr} {k : Nat} {t : TGs} {n : Nat} (hc : X.calm = true) (h : PGs X es t)
    (hn : (assignEach es X.env).length = n := by rfl) (hst : (assignEach es X.env).findIdx? (·.1) = none := by rfl) : PG X (.Tuple es k pos) (gTup X.K n t) := by
  intro pins s σ H v u Q I r hw
  obtain ⟨a, xs, e1, hq, hl, hw⟩ := hw
  subst e1
  cases r
  obtain ⟨its, rv, ht, hz⟩ := I.tuple hq
  refine assign_Tuple_tuple (I.ok.hd hc) ht (by simp [hn, ← hl, rv.length]) hst fun h' hx => ?_
  have I1 : Inv X pins σ H { s with heap := h' } := I.kept (t' := s.toks) fun b o e => hx b o (Nat.ne_of_lt (Heap.lt_size e)) e
  exact h pins _ σ H xs _ Q I1 (by simpa using rv) hw
def gSub (to ti : TE) (t : TSet) : TG := fun v σ H Q => to σ H fun o H1 => ti σ H1 fun i H2 => t o i v H2 fun H3 => Q σ H3
theorem pg_sub {o i : Expr} {to ti : TE} {t : TSet} (ho : PE X o to) (hi : PE X i ti) (hs : PSet X t)
    (ha : ∀ v, assign (.Subscript o i pos) X.env v = (do
      let ov ← holding [v] (eval o X.env)
      let iv ← holding [v, ov] (eval i X.env)
      standAt pos
      holding [v, ov, iv] (setItem ov iv v)
      release [v, ov, iv] []) := by intro _; rfl) : PG X (.Subscript o i pos) (gSub to ti t) := by
  intro pins s σ H v u Q I r h
  rw [ha]
  refine wpAny_bind (wpAny_holding (thn (ho pins s σ H _ I h) fun ov s1 ⟨x, H1, I1, r1, q1⟩ => ?_))
  refine wpAny_bind (wpAny_holding (thn (hi pins s1 σ H1 _ I1 q1) fun iv s2 ⟨y, H2, I2, r2, q2⟩ => ?_))
  refine wpAny_bind (wpAny_standAt (wpAny_bind (wpAny_holding (thn (hs pins s2 σ H2 x y v ov iv u _ I2 r1 r2 r q2) fun _ s3 ⟨H3, I3, q3⟩ => ?_))))
  exact wpAny_release ⟨σ, H3, I3, q3⟩
def tAsg (te : TE) (g : TG) : TS := fun D σ H => te σ H fun x H1 => g x σ H1 D.nx
theorem ps_asg {tg e : Expr} {te : TE} {g : TG} (he : PE X e te) (hg : PG X tg g) (hs : swapsWithSole [tg] e pos.line X.env = pure false := by rfl) (hw : swappedStores [tg] e X.env = pure none := by rfl)
    (h1 : (assignEach [tg] X.env).map (·.2) = [assign tg X.env] := by rfl) : PS X (.Assign [tg] e pos) (tAsg te g) := by
  intro pins s σ H D I h
  refine wpAny_Assign_stores (thn (he pins s σ H _ I h) fun v s1 ⟨x, H1, I1, r1, q1⟩ => ?_) hs hw
  rw [h1]
  exact thn (hg pins s1 σ H1 x v _ I1 r1 q1) fun _ s2 q => q
theorem ps_set {i : Nat} {x : Str} {e : Expr} {te : TE} {pos' : Pos} (hN : X.N.Nodup) (hi : X.N[i]? = some x) (hx : Loc X.env.scope x) (he : PE X e te) (hs : swapsWith e (some (.Name x pos')) pos.line X.env = pure false := by rfl) (hf : X.fn x = true ∨ X.env.scope.names.lookup x = some .local := by first | exact .inl rfl | exact .inr rfl | assumption) :
    PS X (.Assign [.Name x pos'] e pos) (tAsg te (gName i)) := by
  intro pins s σ H D I h
  refine wpAny_Assign_Name (thn (he pins s σ H _ I h) fun v s1 ⟨y, H1, I1, r1, q1⟩ => ?_) hs
  exact store_ok I1 hN hi hx r1 (fun s2 I2 => ⟨_, H1, I2, q1⟩) hf
def tAug (i : Nat) (te : TE) (ti : TIp) : TS := fun D σ H => ∃ x, σ[i]? = some (some x) ∧ te σ H fun y H1 => ti x y H1 fun z H2 => D.nx (σ.set i (some z)) H2
theorem ps_aug {i : Nat} {x : Str} {e : Expr} {te : TE} {op : Operator} {ti : TIp} {pos' : Pos} (hN : X.N.Nodup) (hi : X.N[i]? = some x) (hx : Loc X.env.scope x) (he : PE X e te) (ho : PIp X op ti) (hf : X.fn x = true ∨ X.env.scope.names.lookup x = some .local := by first | exact .inl rfl | exact .inr rfl | assumption) :
    PS X (.AugAssign (.Name x pos') op e pos) (tAug i te ti) := by
  intro pins s σ H D I h
  obtain ⟨v, e1, h⟩ := h
  obtain ⟨m, hn, hl⟩ := I.loc
  have vis : Vis X.env.scope x := by rcases hx with k | k; exact .inl k; exact .inr (.inl k)
  obtain ⟨u, r, l⟩ := hl i x v hi e1 vis
  refine wpAny_AugAssign_Name ?_
  have go : wpAny (model X.prog X.w) X.A (eval e X.env) (fun w s₂ => wpAny (model X.prog X.w) X.A (inplaceOp op u w) (fun r s₃ => wpAny (model X.prog X.w) X.A (storeName X.env x r) (fun _ => SP X pins D .next) X.xe s₃) X.xe s₂) X.xe s := by
    refine thn (he pins s σ H _ I h) fun w s1 ⟨y, H1, I1, r1, q1⟩ => ?_
    refine thn (ho pins s1 σ H1 v y u w _ I1 r r1 q1) fun z s2 ⟨zv, H2, I2, r2, q2⟩ => ?_
    exact store_ok I2 hN hi hx r2 (fun s3 I3 => ⟨_, H2, I3, q2⟩) hf
  rcases l with ⟨hk, hm⟩ | ⟨hk, c, hc, hcell⟩
  · exact wpAny_loadName_local I.ok.kind hk hn hm go
  · rcases hk with hk | hk
    · exact wpAny_loadName_cell I.ok.kind hk hc hcell go
    · rcases hx with k | k
      · have : X.env.scope.names.lookup x = some .free := hk
        rw [k] at this; cases this
      · have : X.env.scope.names.lookup x = some .free := hk
        rw [k] at this; cases this
def ipI (f : Int → Int → Int) : TIp := fun x y H Q => ∃ i j, x = .int i ∧ y = .int j ∧ Q (.int (f i j)) H
theorem ip_add : PIp X .Add (ipI fun i j => i + j) := by
  intro pins s σ H x y v u Q I r1 r2 h
  obtain ⟨i, j, e1, e2, q⟩ := h
  subst e1; subst e2
  obtain ⟨t, rfl⟩ := r1
  obtain ⟨t', rfl⟩ := r2
  exact iadd_int ⟨.int _, H, I.tok _, ⟨_, rfl⟩, q⟩
end
section
variable {X : Cx} {pos : Pos}
def tWhile (c : TT) (tb : TS) : TS := fun D σ H => ∃ W : Nat → St → Hp → Prop, (∃ m, W m σ H) ∧ ∀ m σ H, W m σ H →
  c σ H fun b H1 => if b = true then ∃ N : St → Hp → Prop, (∀ σ' H', N σ' H' → ∃ m', m' < m ∧ W m' σ' H') ∧ tb { D with nx := N, ct := N, bk := D.nx } σ H1 else D.nx σ H1
theorem ps_while {c : Expr} {body : List Stmt} {tc : TT} {tb : TS} (hp : PassesOwn (model X.prog X.w) X.A X.env X.xe) (hc : PT X c tc) (hb : PSs X body tb) : PS X (.While c body [] pos) (tWhile tc tb) := by
  intro pins s σ H D I h
  obtain ⟨W, ⟨m0, w0⟩, turn⟩ := h
  refine wpAny_While (codeAny_whileLoop (fun n s' => ∃ σ' H', Inv X pins σ' H' s' ∧ W n σ' H') ?_ m0 ⟨σ, H, I, w0⟩)
  rintro n s1 ⟨σ1, H1, I1, w1⟩
  refine wpAny_passesOwn hp (thn (hc pins s1 σ1 H1 _ I1 (turn n σ1 H1 w1)) fun b s2 ⟨H2, I2, q2⟩ => ?_)
  cases b with
  | true =>
    obtain ⟨N, hN, q2⟩ := q2
    rw [if_pos rfl]
    refine wpAny_passesOwn hp (thn (hb pins s2 σ1 H2 _ I2 q2) fun f s3 q3 => ?_)
    cases f with
    | next =>
      obtain ⟨σ3, H3, I3, n3⟩ := q3
      obtain ⟨m', hm, w3⟩ := hN σ3 H3 n3
      exact ⟨m', hm, σ3, H3, I3, w3⟩
    | cont =>
      obtain ⟨σ3, H3, I3, n3⟩ := q3
      obtain ⟨m', hm, w3⟩ := hN σ3 H3 n3
      exact ⟨m', hm, σ3, H3, I3, w3⟩
    | brk => exact q3
    | ret v => exact q3
  | false =>
    rw [if_neg Bool.false_ne_true]
    exact wpAny_execs_nil ⟨σ1, H2, I2, q2⟩
end
structure It where
  go : Nat → Hp → Prop
  yld : Nat → Hp → V → Hp → Prop
  stop : Nat → Hp → Prop
def FpOk (X : Cx) (pins : List (Addr × Obj)) (H : Hp) (b : Addr) : Prop :=
  H b = none ∧ b ≠ X.env.locals ∧ b ∉ X.fs ∧ (b ∈ X.ex ∨ X.s_0.heap.objs.size ≤ b) ∧ (∀ x c, X.env.cells.lookup x = some c → c ≠ b) ∧ ∀ p ∈ X.pn ++ pins, p.1 ≠ b
theorem Inv.fpOk {X : Cx} {pins : List (Addr × Obj)} {σ : St} {H H' : Hp} {s : Shared} {b : Addr} (I : Inv X pins σ H s) (hb : s.heap.objs.size ≤ b) (hn : H' b = none) : FpOk X pins H' b := by
  refine ⟨hn, Nat.ne_of_gt (Nat.lt_of_lt_of_le I.lt hb), I.nofs hb, .inr (Nat.le_trans I.sz hb), fun x c e z => ?_, fun p hp z => ?_⟩
  · obtain ⟨v, q⟩ := I.cell x c e
    exact absurd (Nat.lt_of_lt_of_le q.lt (by rw [z]; exact hb)) (Nat.lt_irrefl _)
  · exact absurd (Nat.lt_of_lt_of_le (Heap.lt_size (I.pin p hp).1) (by rw [z]; exact hb)) (Nat.lt_irrefl _)
structure Turn (P : Program) (w : World) (K : PySem.W.Frag) (tg : Expr) (J : It) (fp : List Addr) (it : Addr) (tn : Nat → Heap → Prop) : Prop where
  mem : it ∈ fp
  obj : ∀ i h, tn i h → ∀ b ∈ fp, ∃ o, h.get? b = some o ∧ ∀ v, o.data ≠ .cell v
  keep : ∀ i h h', tn i h → (∀ b ∈ fp, ∀ o, h.get? b = some o → h'.get? b = some o) → tn i h'
  item : ∀ (X : Cx), X.prog = P → X.w = w → X.K = K → X.calm = true → ∀ (i : Nat) (pins : List (Addr × Obj)) (s : Shared) (σ : St) (H : Hp) (E : Value → Shared → Prop), Inv X pins σ H s → (∀ b ∈ fp, FpOk X pins H b) → tn i s.heap → J.go i H →
    wpAny (model P w) X.A (pyNext (.ref it)) (fun r s1 => ∃ u, r = some u ∧
      wpAny (model P w) X.A (letOwnedTupleGo tg (.ref it) u) (fun _ s2 => ∃ x H', Inv X pins σ H' s2 ∧ RelV x u ∧ J.yld i H x H' ∧ tn (i + 1) s2.heap ∧ ∀ b ∈ fp, H' b = none) E s1) E s
  done : ∀ (X : Cx), X.prog = P → X.w = w → X.K = K → X.calm = true → ∀ (i : Nat) (pins : List (Addr × Obj)) (s : Shared) (σ : St) (H : Hp) (E : Value → Shared → Prop), Inv X pins σ H s → (∀ b ∈ fp, FpOk X pins H b) → tn i s.heap → J.stop i H →
    wpAny (model P w) X.A (pyNext (.ref it)) (fun r s1 => r = none ∧ Inv X pins σ H s1) E s
  self : ∀ (A : Around) (i : Nat) (s : Shared) (Q : Value → Shared → Prop) (E : Value → Shared → Prop), tn i s.heap → Q (.ref it) s → wpAny (model P w) A (pyIter (.ref it)) Q E s
abbrev TI := St → Hp → (It → Hp → Prop) → Prop
def PIE (X : Cx) (pins : List (Addr × Obj)) (σ : St) (tg : Expr) (R : It → Hp → Prop) (itv : Value) (s2 : Shared) : Prop :=
  ∃ (it : Addr) (fp : List Addr) (tn : Nat → Heap → Prop) (J : It) (H' : Hp), itv = .ref it ∧ Inv X pins σ H' s2 ∧ Turn X.prog X.w X.K tg J fp it tn ∧ tn 0 s2.heap ∧ (∀ b ∈ fp, FpOk X pins H' b) ∧ R J H'
def PI (X : Cx) (tg iter : Expr) (wi : TI) : Prop :=
  ∀ (pins : List (Addr × Obj)) (s : Shared) (σ : St) (H : Hp) (R : It → Hp → Prop), Inv X pins σ H s → wi σ H R →
    wpAny (model X.prog X.w) X.A (eval iter X.env) (fun v s1 => wpAny (model X.prog X.w) X.A (pyIter v) (PIE X pins σ tg R) X.xe s1) X.xe s
theorem go_of {M : Model} {A : Around} {E : Value → Shared → Prop} {s : Shared} {tg : Expr} {it : Addr} {u : Value} {o : Obj} {n : String} {vs : Array Value} {Q : Unit → Shared → Prop} (ho : s.heap.get? it = some o) (hc : o.cls = .type n) (hd : o.data = .fields vs)
    (hn : ["enumerate", "zip", "dict_itemiterator", "dict_reverseitemiterator", "odict_iterator", "itertools.zip_longest", "itertools.pairwise"].contains n = false) (hQ : Q () s) : wpAny M A (letOwnedTupleGo tg (.ref it) u) Q E s := by
  unfold letOwnedTupleGo
  cases tg <;> first
    | exact wpAny_pure hQ
    | (cases u <;> first
        | exact wpAny_pure hQ
        | (refine wpAny_bind (wpAny_load ho ?_)
           rw [hc, hd]
           show wpAny M A (if (["enumerate", "zip", "dict_itemiterator", "dict_reverseitemiterator", "odict_iterator", "itertools.zip_longest", "itertools.pairwise"].contains n && vs[0]? == some (rawInt _)) = true then _ else _) Q E s
           rw [if_neg (by intro h; rw [hn, Bool.false_and] at h; cases h)]
           exact wpAny_pure hQ))
def Itl (K : PySem.W.Frag) (a : Addr) : It :=
  ⟨fun i H => ∃ xs x, SqL K H a xs ∧ xs[i]? = some x, fun i H x H' => H' = H ∧ ∀ xs, SqL K H a xs → xs[i]? = some x, fun i H => ∃ xs, SqL K H a xs ∧ xs.length ≤ i⟩
def Itt (K : PySem.W.Frag) (a : Addr) : It :=
  ⟨fun i H => ∃ xs x, SqT K H a xs ∧ xs[i]? = some x, fun i H x H' => H' = H ∧ ∀ xs, SqT K H a xs → xs[i]? = some x, fun i H => ∃ xs, SqT K H a xs ∧ xs.length ≤ i⟩
def Itr (lo : Int) (n : Nat) : It := ⟨fun i _ => i < n, fun i H x H' => H' = H ∧ x = .int (lo + i), fun i _ => n ≤ i⟩
theorem turn_list {P : Program} {w : World} {K : PySem.W.Frag} {tg : Expr} (a it : Addr) : Turn P w K tg (Itl K a) [it] it (fun i h => h.IsListIter it a i) where
  mem := by simp
  obj := fun i h st b hb => by
    have e : b = it := by simpa using hb
    subst e
    obtain ⟨o, e, c, d⟩ := st
    exact ⟨o, e, fun v z => by rw [d] at z; cases z⟩
  keep := fun i h h' st k => st.at fun o e => k it (by simp) o e
  item := by
    intro X hP hw hK hc i pins s σ H E I hf st hg
    subst hP hw hK
    obtain ⟨xs, x, hq, hx⟩ := hg
    obtain ⟨its, rv, p, hz⟩ := I.list hq
    obtain ⟨u, hu, ru⟩ := rv.get hx
    obtain ⟨f0, f1, f2, f3, f4, f5⟩ := hf it (by simp)
    refine wpAny_pyNext_list_item st p.isList (x := u) (by simpa using hu) fun h' st' sb => ?_
    have I1 : Inv X pins σ H { s with heap := h' } := I.turned (t' := s.toks) (fun b o hb e => (sb.2 b hb).trans e) f0 f1 f3 f4 f5
    obtain ⟨o, e, c, d⟩ := id st'
    exact ⟨u, rfl, go_of (s := { s with heap := h' }) e c d (by decide) ⟨x, H, I1, ru, ⟨rfl, fun ys hy => by rw [I.list_inj hy hq]; exact hx⟩, st', fun b hb => (hf b hb).1⟩⟩
  done := by
    intro X hP hw hK hc i pins s σ H E I hf st hg
    subst hP hw hK
    obtain ⟨xs, hq, hx⟩ := hg
    obtain ⟨its, rv, p, hz⟩ := I.list hq
    obtain ⟨f0, f1, f2, f3, f4, f5⟩ := hf it (by simp)
    have hl := rv.length
    exact wpAny_pyNext_list_end (I.ok.hd hc) st p.isList (by simp; omega) fun h' eb => ⟨rfl, I.turned (t' := s.toks) (fun b o hb e => eb b o hb e) f0 f1 f3 f4 f5⟩
  self := fun _ _ _ _ _ st h => wpAny_pyIter_listiter st h
theorem turn_tuple {P : Program} {w : World} {K : PySem.W.Frag} {tg : Expr} (a it : Addr) : Turn P w K tg (Itt K a) [it] it (fun i h => h.IsTupleIter it a i) where
  mem := by simp
  obj := fun i h st b hb => by
    have e : b = it := by simpa using hb
    subst e
    obtain ⟨o, e, c, d⟩ := st
    exact ⟨o, e, fun v z => by rw [d] at z; cases z⟩
  keep := fun i h h' st k => st.at fun o e => k it (by simp) o e
  item := by
    intro X hP hw hK hc i pins s σ H E I hf st hg
    subst hP hw hK
    obtain ⟨xs, x, hq, hx⟩ := hg
    obtain ⟨its, rv, p, hz⟩ := I.tuple hq
    obtain ⟨u, hu, ru⟩ := rv.get hx
    obtain ⟨f0, f1, f2, f3, f4, f5⟩ := hf it (by simp)
    refine wpAny_pyNext_tuple_item st (show s.heap.IsTuple a its.toArray from p) (x := u) (by simpa using hu) fun h' st' sb => ?_
    have I1 : Inv X pins σ H { s with heap := h' } := I.turned (t' := s.toks) (fun b o hb e => (sb.2 b hb).trans e) f0 f1 f3 f4 f5
    obtain ⟨o, e, c, d⟩ := id st'
    exact ⟨u, rfl, go_of (s := { s with heap := h' }) e c d (by decide) ⟨x, H, I1, ru, ⟨rfl, fun ys hy => by rw [I.tuple_inj hy hq]; exact hx⟩, st', fun b hb => (hf b hb).1⟩⟩
  done := by
    intro X hP hw hK hc i pins s σ H E I hf st hg
    subst hP hw hK
    obtain ⟨xs, hq, hx⟩ := hg
    obtain ⟨its, rv, p, hz⟩ := I.tuple hq
    obtain ⟨f0, f1, f2, f3, f4, f5⟩ := hf it (by simp)
    have hl := rv.length
    exact wpAny_pyNext_tuple_end (I.ok.hd hc) st (show s.heap.IsTuple a its.toArray from p) (by simp; omega) fun h' eb => ⟨rfl, I.turned (t' := s.toks) (fun b o hb e => eb b o hb e) f0 f1 f3 f4 f5⟩
  self := fun _ _ _ _ _ st h => wpAny_pyIter_tupleiter st h
theorem turn_range {P : Program} {w : World} {K : PySem.W.Frag} {tg : Expr} (it : Addr) (lo : Int) (n : Nat) : Turn P w K tg (Itr lo n) [it] it (fun i h => IsRangeIter h it (lo + (i : Nat) * 1) ((n : Int) - (i : Nat)) 1) where
  mem := by simp
  obj := fun i h st b hb => by
    have e : b = it := by simpa using hb
    subst e
    exact ⟨_, st, fun v z => by
      have z' : Data.fields _ = Data.cell v := z
      cases z'⟩
  keep := fun i h h' st k => k it (by simp) _ st
  item := by
    intro X hP hw hK hc i pins s σ H E I hf st hg
    subst hP hw hK
    obtain ⟨f0, f1, f2, f3, f4, f5⟩ := hf it (by simp)
    have W := Walks.range (prog := X.prog) (w := X.w) (I.ok.hd hc) it lo 1 n
    refine W.item i s _ _ hg st fun v h' tk hv st' kk => ?_
    obtain ⟨t, rfl⟩ := hv
    have I1 : Inv X pins σ H { s with heap := h', toks := tk } := I.turned (fun b o hb e => kk b o (by simpa using hb) e) f0 f1 f3 f4 f5
    refine ⟨_, rfl, go_of (s := { s with heap := h', toks := tk }) (n := "range_iterator") st' rfl rfl (by decide) ⟨.int (lo + i), H, I1, ⟨t, ?_⟩, ⟨rfl, rfl⟩, st', fun b hb => (hf b hb).1⟩⟩
    rw [Int.mul_one]
  done := by
    intro X hP hw hK hc i pins s σ H E I hf st hg
    subst hP hw hK
    obtain ⟨f0, f1, f2, f3, f4, f5⟩ := hf it (by simp)
    exact wpAny_pyNext_range_end (I.ok.hd hc) st (by have : n ≤ i := hg; omega) fun h' eb => ⟨rfl, I.turned (t' := s.toks) (fun b o hb e => eb b o hb e) f0 f1 f3 f4 f5⟩
  self := fun _ _ _ _ _ st h => wpAny_pyIter_rangeiter st h
end L2
namespace L2
open PySem PySem.Spec PyProof.Rows
section
variable {X : Cx} {tg : Expr}
def iList (K : PySem.W.Frag) (tl : TE) : TI := fun σ H R => tl σ H fun x H1 => ∃ a, x = .ref a ∧ (∃ xs, SqL K H1 a xs) ∧ R (Itl K a) H1
def iTup (K : PySem.W.Frag) (tl : TE) : TI := fun σ H R => tl σ H fun x H1 => ∃ a, x = .ref a ∧ (∃ xs, SqT K H1 a xs) ∧ R (Itt K a) H1
theorem pi_list {l : Expr} {tl : TE} (hl : PE X l tl) : PI X tg l (iList X.K tl) := by
  intro pins s σ H R I h
  refine thn (hl pins s σ H _ I h) fun v s1 ⟨x, H1, I1, r1, q1⟩ => ?_
  obtain ⟨a, e, ⟨xs, hq⟩, q⟩ := q1
  subst e
  cases r1
  obtain ⟨its, rv, p, hz⟩ := I1.list hq
  refine wpAny_pyIter_list p.isList ?_
  refine ⟨s1.heap.objs.size, [s1.heap.objs.size], _, _, H1, rfl, I1.kept (t' := s1.toks) fun b o e => Heap.get?_push_of_some _ e, turn_list a _, ⟨_, Heap.get?_push_size _ rfl, rfl, rfl⟩, fun b hb => ?_, q⟩
  have e : b = s1.heap.objs.size := by simpa using hb
  subst e
  exact I1.fpOk (Nat.le_refl _) (I1.hok.fresh (Nat.le_refl _))
theorem pi_tup {l : Expr} {tl : TE} (hl : PE X l tl) : PI X tg l (iTup X.K tl) := by
  intro pins s σ H R I h
  refine thn (hl pins s σ H _ I h) fun v s1 ⟨x, H1, I1, r1, q1⟩ => ?_
  obtain ⟨a, e, ⟨xs, hq⟩, q⟩ := q1
  subst e
  cases r1
  obtain ⟨its, rv, p, hz⟩ := I1.tuple hq
  refine wpAny_pyIter_tuple (show s1.heap.IsTuple a its.toArray from p) ?_
  refine ⟨s1.heap.objs.size, [s1.heap.objs.size], _, _, H1, rfl, I1.kept (t' := s1.toks) fun b o e => Heap.get?_push_of_some _ e, turn_tuple a _, ⟨_, Heap.get?_push_size _ rfl, rfl, rfl⟩, fun b hb => ?_, q⟩
  have e : b = s1.heap.objs.size := by simpa using hb
  subst e
  exact I1.fpOk (Nat.le_refl _) (I1.hok.fresh (Nat.le_refl _))
theorem range_it {pins : List (Addr × Obj)} {σ : St} {H : Hp} {s : Shared} {R : It → Hp → Prop} {E : Value → Shared → Prop} {lo hi : Int} {t u v : Tok} {tk : Nat} (I : Inv X pins σ H s) (h1 : -(2 ^ 62) ≤ lo) (h2 : lo < 2 ^ 62) (h3 : -(2 ^ 62) ≤ hi) (h4 : hi < 2 ^ 62)
    (q : R (Itr lo (hi - lo).toNat) H) : wpAny (model X.prog X.w) X.A (pyIter (.ref s.heap.objs.size)) (PIE X pins σ tg R) E { s with heap := s.heap.push { cls := .type "range", data := .fields #[.int lo t, .int hi u, .int 1 v] }, toks := tk } := by
  refine wpAny_pyIter_range (IsRange.new ..) (small_one h1 h2 h3 h4) ?_
  have I1 : Inv X pins σ H { s with heap := s.heap.push { cls := .type "range", data := .fields #[.int lo t, .int hi u, .int 1 v] }, toks := tk } := I.kept fun b o e => Heap.get?_push_of_some _ e
  refine ⟨(s.heap.push { cls := .type "range", data := .fields #[.int lo t, .int hi u, .int 1 v] }).objs.size, [(s.heap.push { cls := .type "range", data := .fields #[.int lo t, .int hi u, .int 1 v] }).objs.size], _, _, H, rfl,
    I1.kept (t' := tk) fun b o e => Heap.get?_push_of_some _ e, turn_range _ lo (hi - lo).toNat, ?_, fun b hb => ?_, q⟩
  · have e1 : lo + ((0 : Nat) : Int) * 1 = lo := by simp
    have e2 : (((hi - lo).toNat : Nat) : Int) - ((0 : Nat) : Int) = Builtin.Range.rangeSize lo hi 1 := by rw [rangeSize_one]; split <;> omega
    show IsRangeIter _ _ (lo + ((0 : Nat) : Int) * 1) ((((hi - lo).toNat : Nat) : Int) - ((0 : Nat) : Int)) 1
    rw [e1, e2]
    exact Heap.get?_push_size _ rfl
  · have e : b = (s.heap.push { cls := .type "range", data := .fields #[.int lo t, .int hi u, .int 1 v] }).objs.size := by simpa using hb
    subst e
    exact I1.fpOk (Nat.le_refl _) (I1.hok.fresh (Nat.le_refl _))
def iRng1 (ta : TA) : TI := fun σ H R => ta σ H fun vs H1 => ∃ j : Int, vs = [.int j] ∧ -(2 ^ 62) ≤ j ∧ j < 2 ^ 62 ∧ R (Itr 0 j.toNat) H1
theorem pi_range1 {a : Expr} {ta : TA} {p pos : Pos} (hg : Gl X "range") (hm : X.mg "range" = none) (ha : PA X [a] ta) (hs : starEach [a] X.env = [(false, eval a X.env)] := by rfl) : PI X tg (.Call (.Name "range" p) [a] [] pos) (iRng1 ta) := by
  intro pins s σ H R I h
  refine Call_ (ld_blt I hg hm boot_range (PyProof.Rows.callWith_type1 (thn (ha pos pins s σ H _ I h) fun us s1 ⟨vs, H1, I1, r1, q1⟩ => ?_) hs rfl))
  obtain ⟨j, e, q1, q2, q⟩ := q1
  subst e
  cases r1 with
  | cons r rr =>
    cases rr
    obtain ⟨t, rfl⟩ := r
    exact call_range_1 (range_it I1 (by omega) (by omega) q1 q2 (by simpa using q))
def tFor (wi : TI) (g : TG) (tb : TS) : TS := fun D σ H => wi σ H fun J H1 => ∃ W : Nat → Nat → St → Hp → Prop, (∃ m, W 0 m σ H1) ∧ ∀ i m σ H, W i m σ H →
  (J.stop i H ∧ D.nx σ H) ∨ (J.go i H ∧ ∃ N : St → Hp → Prop, (∀ σ' H', N σ' H' → ∃ m', m' < m ∧ W (i + 1) m' σ' H') ∧ ∀ x H', J.yld i H x H' → g x σ H' fun σ2 H2 => tb { D with nx := N, ct := N, bk := D.nx } σ2 H2)
def pinsAt (fp : List Addr) (h : Heap) : List (Addr × Obj) := fp.filterMap fun b => (h.get? b).map fun o => (b, o)
theorem mem_pinsAt {fp : List Addr} {h : Heap} {b : Addr} {o : Obj} (hb : b ∈ fp) (e : h.get? b = some o) : (b, o) ∈ pinsAt fp h := List.mem_filterMap.mpr ⟨b, hb, by rw [e]; rfl⟩
theorem of_pinsAt {fp : List Addr} {h : Heap} {p : Addr × Obj} (hp : p ∈ pinsAt fp h) : p.1 ∈ fp ∧ h.get? p.1 = some p.2 := by
  obtain ⟨b, hb, e⟩ := List.mem_filterMap.mp hp
  cases q : h.get? b with
  | none => rw [q] at e; cases e
  | some o =>
    rw [q] at e
    have e' : (b, o) = p := Option.some.inj e
    subst e'
    exact ⟨hb, q⟩
theorem Inv.pinned {pins : List (Addr × Obj)} {σ : St} {H : Hp} {s : Shared} {fp : List Addr} (I : Inv X pins σ H s) (hf : ∀ b ∈ fp, FpOk X pins H b) (ho : ∀ b ∈ fp, ∃ o, s.heap.get? b = some o ∧ ∀ v, o.data ≠ .cell v) : Inv X (pins ++ pinsAt fp s.heap) σ H s :=
  I.pins_of fun p hp => (List.mem_append.mp hp).elim (fun z => I.pin p (List.mem_append_right _ z)) fun z => by
    obtain ⟨hb, e⟩ := of_pinsAt z
    obtain ⟨f0, f1, f2, _⟩ := hf p.1 hb
    obtain ⟨o, e', d⟩ := ho p.1 hb
    rw [e] at e'; cases e'
    exact ⟨e, f0, f1, f2, d⟩
theorem Inv.unpinned {pins pl : List (Addr × Obj)} {σ : St} {H : Hp} {s : Shared} (I : Inv X (pins ++ pl) σ H s) : Inv X pins σ H s := I.pins_of fun p hp => I.pin p (List.mem_append_right _ (List.mem_append_left _ hp))
theorem ps_for {iter : Expr} {body : List Stmt} {wi : TI} {g : TG} {tb : TS} {pos : Pos} (hp : PassesOwn (model X.prog X.w) X.A X.env X.xe) (hc : X.calm = true) (hi : PI X tg iter wi) (hg : PG X tg g) (hb : PSs X body tb)
    (hs : ∀ x, foldedSetIterable iter X.env x = pure x := by intro _; rfl) : PS X (.For tg iter body [] pos) (tFor wi g tb) := by
  intro pins s σ H D I h
  refine wpAny_For (thn (hi pins s σ H _ I h) fun v s1 h1 => thn h1 fun itv s2 h2 => ?_) hs
  obtain ⟨it, fp, tn, J, H2, e, I2, T, st2, f2, W, ⟨m0, w0⟩, turn⟩ := h2
  subst e
  have stat : ∀ {H' : Hp}, (∀ b ∈ fp, H' b = none) → ∀ b ∈ fp, FpOk X pins H' b := fun hn b hb => ⟨hn b hb, (f2 b hb).2⟩
  refine codeAny_forLoop_any (fun n s' => ∃ i σ' H', Inv X pins σ' H' s' ∧ tn i s'.heap ∧ (∀ b ∈ fp, H' b = none) ∧ W i n σ' H') ?_ m0 ⟨0, σ, H2, I2, st2, fun b hb => (f2 b hb).1, w0⟩
  rintro n s3 ⟨i, σ3, H3, I3, st3, fr3, w3⟩
  rcases turn i n σ3 H3 w3 with ⟨stop, qn⟩ | ⟨go, N, hN, step⟩
  · refine wpAny_passesOwn hp (thn (T.done X rfl rfl rfl hc i pins s3 σ3 H3 X.xe I3 (stat fr3) st3 stop) fun r s4 ⟨hr, I4⟩ => ?_)
    subst hr
    exact wpAny_execs_nil ⟨σ3, H3, I4, qn⟩
  · refine wpAny_passesOwn hp (thn (T.item X rfl rfl rfl hc i pins s3 σ3 H3 X.xe I3 (stat fr3) st3 go) fun r s4 ⟨u, hr, h4⟩ => ?_)
    subst hr
    refine wpAny_passesOwn hp (thn h4 fun _ s5 ⟨x, H5, I5, r5, y5, st5, fr5⟩ => ?_)
    have I5' := I5.pinned (stat fr5) (T.obj _ _ st5)
    refine wpAny_passesOwn hp (thn (hg _ s5 σ3 H5 x u _ I5' r5 (step x H5 y5)) fun _ s6 ⟨σ6, H6, I6, q6⟩ => ?_)
    refine wpAny_passesOwn hp (thn (hb _ s6 σ6 H6 _ I6 q6) fun f s7 q7 => ?_)
    have again : ∀ {σ7 : St} {H7 : Hp}, Inv X (pins ++ pinsAt fp s5.heap) σ7 H7 s7 → N σ7 H7 → ∃ m, m < n ∧ ∃ i σ' H', Inv X pins σ' H' s7 ∧ tn i s7.heap ∧ (∀ b ∈ fp, H' b = none) ∧ W i m σ' H' := fun {σ7 H7} I7 n7 => by
      obtain ⟨m', hm, w7⟩ := hN σ7 H7 n7
      refine ⟨m', hm, i + 1, σ7, H7, I7.unpinned, T.keep _ _ _ st5 fun b hb o e => (I7.pin (b, o) (List.mem_append_right _ (List.mem_append_right _ (mem_pinsAt hb e)))).1, fun b hb => ?_, w7⟩
      obtain ⟨o, e, d⟩ := T.obj _ _ st5 b hb
      exact (I7.pin (b, o) (List.mem_append_right _ (List.mem_append_right _ (mem_pinsAt hb e)))).2.1
    cases f with
    | next => obtain ⟨σ7, H7, I7, n7⟩ := q7; exact again I7 n7
    | cont => obtain ⟨σ7, H7, I7, n7⟩ := q7; exact again I7 n7
    | brk => obtain ⟨σ7, H7, I7, q7⟩ := q7; exact ⟨σ7, H7, I7.unpinned, q7⟩
    | ret v => obtain ⟨x7, σ7, H7, I7, r7, q7⟩ := q7; exact ⟨x7, σ7, H7, I7.unpinned, r7, q7⟩
end
theorem for_list {K : PySem.W.Frag} {a : Addr} {xs : List V} {g : TG} {tb : TS} {D : Ends} {σ : St} {H : Hp} (Pv : Nat → St → Hp → Prop) (h0 : Pv 0 σ H) (hl : ∀ i σ H, i ≤ xs.length → Pv i σ H → SqL K H a xs)
    (hs : ∀ i x σ H, xs[i]? = some x → Pv i σ H → g x σ H fun σ2 H2 => tb { D with nx := Pv (i + 1), ct := Pv (i + 1), bk := D.nx } σ2 H2) (hd : ∀ σ H, Pv xs.length σ H → D.nx σ H) :
    ∃ W : Nat → Nat → St → Hp → Prop, (∃ m, W 0 m σ H) ∧ ∀ i m σ H, W i m σ H →
      ((Itl K a).stop i H ∧ D.nx σ H) ∨ ((Itl K a).go i H ∧ ∃ N : St → Hp → Prop, (∀ σ' H', N σ' H' → ∃ m', m' < m ∧ W (i + 1) m' σ' H') ∧ ∀ x H', (Itl K a).yld i H x H' → g x σ H' fun σ2 H2 => tb { D with nx := N, ct := N, bk := D.nx } σ2 H2) := by
  refine ⟨fun i m σ H => m = xs.length - i ∧ i ≤ xs.length ∧ Pv i σ H, ⟨xs.length, by simp, Nat.zero_le _, h0⟩, ?_⟩
  rintro i m σ H ⟨rfl, hi, p⟩
  have q := hl i σ H hi p
  by_cases hlt : i < xs.length
  · refine .inr ⟨⟨xs, xs[i], q, by simp [hlt]⟩, Pv (i + 1), fun σ' H' p' => ⟨xs.length - (i + 1), by omega, rfl, hlt, p'⟩, fun x H' y => ?_⟩
    obtain ⟨e, y⟩ := y
    subst e
    exact hs i x σ _ (y xs q) p
  · have e : i = xs.length := by omega
    subst e
    exact .inl ⟨⟨xs, q, Nat.le_refl _⟩, hd σ H p⟩
theorem for_tup {K : PySem.W.Frag} {a : Addr} {xs : List V} {g : TG} {tb : TS} {D : Ends} {σ : St} {H : Hp} (Pv : Nat → St → Hp → Prop) (h0 : Pv 0 σ H) (hl : ∀ i σ H, i ≤ xs.length → Pv i σ H → SqT K H a xs)
    (hs : ∀ i x σ H, xs[i]? = some x → Pv i σ H → g x σ H fun σ2 H2 => tb { D with nx := Pv (i + 1), ct := Pv (i + 1), bk := D.nx } σ2 H2) (hd : ∀ σ H, Pv xs.length σ H → D.nx σ H) :
    ∃ W : Nat → Nat → St → Hp → Prop, (∃ m, W 0 m σ H) ∧ ∀ i m σ H, W i m σ H →
      ((Itt K a).stop i H ∧ D.nx σ H) ∨ ((Itt K a).go i H ∧ ∃ N : St → Hp → Prop, (∀ σ' H', N σ' H' → ∃ m', m' < m ∧ W (i + 1) m' σ' H') ∧ ∀ x H', (Itt K a).yld i H x H' → g x σ H' fun σ2 H2 => tb { D with nx := N, ct := N, bk := D.nx } σ2 H2) := by
  refine ⟨fun i m σ H => m = xs.length - i ∧ i ≤ xs.length ∧ Pv i σ H, ⟨xs.length, by simp, Nat.zero_le _, h0⟩, ?_⟩
  rintro i m σ H ⟨rfl, hi, p⟩
  have q := hl i σ H hi p
  by_cases hlt : i < xs.length
  · refine .inr ⟨⟨xs, xs[i], q, by simp [hlt]⟩, Pv (i + 1), fun σ' H' p' => ⟨xs.length - (i + 1), by omega, rfl, hlt, p'⟩, fun x H' y => ?_⟩
    obtain ⟨e, y⟩ := y
    subst e
    exact hs i x σ _ (y xs q) p
  · have e : i = xs.length := by omega
    subst e
    exact .inl ⟨⟨xs, q, Nat.le_refl _⟩, hd σ H p⟩
theorem for_range {lo : Int} {n : Nat} {g : TG} {tb : TS} {D : Ends} {σ : St} {H : Hp} (Pv : Nat → St → Hp → Prop) (h0 : Pv 0 σ H)
    (hs : ∀ i σ H, i < n → Pv i σ H → g (.int (lo + i)) σ H fun σ2 H2 => tb { D with nx := Pv (i + 1), ct := Pv (i + 1), bk := D.nx } σ2 H2) (hd : ∀ σ H, Pv n σ H → D.nx σ H) :
    ∃ W : Nat → Nat → St → Hp → Prop, (∃ m, W 0 m σ H) ∧ ∀ i m σ H, W i m σ H →
      ((Itr lo n).stop i H ∧ D.nx σ H) ∨ ((Itr lo n).go i H ∧ ∃ N : St → Hp → Prop, (∀ σ' H', N σ' H' → ∃ m', m' < m ∧ W (i + 1) m' σ' H') ∧ ∀ x H', (Itr lo n).yld i H x H' → g x σ H' fun σ2 H2 => tb { D with nx := N, ct := N, bk := D.nx } σ2 H2) := by
  refine ⟨fun i m σ H => m = n - i ∧ i ≤ n ∧ Pv i σ H, ⟨n, by simp, Nat.zero_le _, h0⟩, ?_⟩
  rintro i m σ H ⟨rfl, hi, p⟩
  by_cases hlt : i < n
  · refine .inr ⟨hlt, Pv (i + 1), fun σ' H' p' => ⟨n - (i + 1), by omega, rfl, hlt, p'⟩, fun x H' y => ?_⟩
    obtain ⟨e, y⟩ := y
    subst e y
    exact hs i σ _ hlt p
  · have e : i = n := by omega
    subst e
    exact .inl ⟨Nat.le_refl _, hd σ H p⟩
end L2
namespace L2
open PySem PySem.Spec PyProof.Rows
abbrev R2 := V → V → Hp → VK → Prop
def OpR (X : Cx) (f : Value → Value → Sem Value) (r : R2) : Prop :=
  ∀ (pins : List (Addr × Obj)) (s : Shared) (σ : St) (H : Hp) (x y : V) (v u : Value) (Q : VK), Inv X pins σ H s → RelV x v → RelV y u → r x y H Q →
    wpAny (model X.prog X.w) X.A (f v u) (EP X pins σ Q) X.xe s
def CallR (X : Cx) (f : Value) (r : List V → Hp → VK → Prop) : Prop :=
  ∀ (pins : List (Addr × Obj)) (s : Shared) (σ : St) (H : Hp) (xs : List V) (us : List Value) (Q : VK), Inv X pins σ H s → Vals xs us → r xs H Q →
    wpAny (model X.prog X.w) X.A (call f us) (EP X pins σ Q) X.xe s
def tOp (r : R2) (ta tb : TE) : TE := fun σ H Q => ta σ H fun x H1 => tb σ H1 fun y H2 => r x y H2 Q
def rI (C : Int → Int → Prop) (g : Int → Int → V) : R2 := fun x y H Q => ∃ i j, x = .int i ∧ y = .int j ∧ C i j ∧ Q (g i j) H
def rI0 (g : Int → Int → V) : R2 := fun x y H Q => ∃ i j, x = .int i ∧ y = .int j ∧ Q (g i j) H
section
variable {X : Cx} {a b c : Expr} {ta tb tc : TE} {pos : Pos}
theorem binT (ha : PE X a ta) (hb : PE X b tb) {pins : List (Addr × Obj)} {s : Shared} {σ : St} {H : Hp} {R : V → V → Hp → Prop} (I : Inv X pins σ H s)
    (h : ta σ H fun x H1 => tb σ H1 fun y H2 => R x y H2) {Q : Value → Shared → Prop} {f : Value → Value → Sem Value}
    (hf : ∀ v u s2 x y H2, Inv X pins σ H2 s2 → RelV x v → RelV y u → R x y H2 → wpAny (model X.prog X.w) X.A (f v u) Q X.xe s2) :
    wpAny (model X.prog X.w) X.A (eval a X.env) (fun v s₁ => wpAny (model X.prog X.w) X.A (eval b X.env) (fun u s₂ => wpAny (model X.prog X.w) X.A (f v u) Q X.xe s₂) X.xe s₁) X.xe s := by
  refine thn (ha pins s σ H _ I h) fun v s1 ⟨x, H1, I1, r1, q1⟩ => ?_
  refine thn (hb pins s1 σ H1 _ I1 q1) fun u s2 ⟨y, H2, I2, r2, q2⟩ => ?_
  exact hf v u s2 x y H2 I2 r1 r2 q2
theorem pe_op {op : Operator} {r : R2} (ho : OpR X (binaryOp op) r) (ha : PE X a ta) (hb : PE X b tb) : PE X (.BinOp a op b pos) (tOp r ta tb) := by
  intro pins s σ H Q I h
  exact wpAny_BinOp (binT ha hb I h fun v u s2 x y H2 I2 rx ry q => ho pins s2 σ H2 x y v u Q I2 rx ry q)
theorem opI {f : Value → Value → Sem Value} {C : Int → Int → Prop} {g : Int → Int → Int}
    (rule : ∀ (i j : Int) (t u : Tok) (s : Shared) (Q : Value → Shared → Prop) (E : Value → Shared → Prop), C i j → Q (.int (g i j) s.toks) { s with toks := s.toks + 1 } → wpAny (model X.prog X.w) X.A (f (.int i t) (.int j u)) Q E s) :
    OpR X f (rI C fun i j => .int (g i j)) := by
  intro pins s σ H x y v u Q I rx ry h
  obtain ⟨i, j, rfl, rfl, hc, q⟩ := h
  obtain ⟨t, rfl⟩ := rx
  obtain ⟨t', rfl⟩ := ry
  exact rule i j t t' s _ _ hc ⟨.int (g i j), H, I.tok _, ⟨_, rfl⟩, q⟩
theorem opI0 {f : Value → Value → Sem Value} {g : Int → Int → Int}
    (rule : ∀ (i j : Int) (t u : Tok) (s : Shared) (Q : Value → Shared → Prop) (E : Value → Shared → Prop), Q (.int (g i j) s.toks) { s with toks := s.toks + 1 } → wpAny (model X.prog X.w) X.A (f (.int i t) (.int j u)) Q E s) :
    OpR X f (rI0 fun i j => .int (g i j)) := by
  intro pins s σ H x y v u Q I rx ry h
  obtain ⟨i, j, rfl, rfl, q⟩ := h
  obtain ⟨t, rfl⟩ := rx
  obtain ⟨t', rfl⟩ := ry
  exact rule i j t t' s _ _ ⟨.int (g i j), H, I.tok _, ⟨_, rfl⟩, q⟩
theorem opB0 {f : Value → Value → Sem Value} {g : Int → Int → Bool}
    (rule : ∀ (i j : Int) (t u : Tok) (s : Shared) (Q : Value → Shared → Prop) (E : Value → Shared → Prop), Q (.bool (g i j)) s → wpAny (model X.prog X.w) X.A (f (.int i t) (.int j u)) Q E s) :
    OpR X f (rI0 fun i j => .bl (g i j)) := by
  intro pins s σ H x y v u Q I rx ry h
  obtain ⟨i, j, rfl, rfl, q⟩ := h
  obtain ⟨t, rfl⟩ := rx
  obtain ⟨t', rfl⟩ := ry
  exact rule i j t t' s _ _ ⟨.bl (g i j), H, I, rfl, q⟩
def CDiv (i j : Int) : Prop := 0 < j ∧ j < 1073741824
def CPow (i j : Int) : Prop := 0 ≤ j ∧ j ≤ 1000000 ∧ i.natAbs < 2 ^ 64
def CMul (i j : Int) : Prop := (-(2 ^ 64) < i ∧ i < 2 ^ 64) ∨ (-(2 ^ 64) < j ∧ j < 2 ^ 64)
theorem CMul.ok {i j : Int} (h : CMul i j) : IntMulOk i j := by
  rcases h with ⟨h1, h2⟩ | ⟨h1, h2⟩
  · exact .of_left (intBits_le_64 h1 h2)
  · exact .of_right (intBits_le_64 h1 h2)
theorem op_add : OpR X (binaryOp .Add) (rI0 fun i j => .int (i + j)) := opI0 fun _ _ _ _ _ _ _ q => add_int q
theorem op_sub : OpR X (binaryOp .Sub) (rI0 fun i j => .int (i - j)) := opI0 fun _ _ _ _ _ _ _ q => sub_int q
theorem op_mul : OpR X (binaryOp .Mult) (rI CMul fun i j => .int (i * j)) := opI fun _ _ _ _ _ _ _ hc q => mul_int q hc.ok
theorem op_fdiv : OpR X (binaryOp .FloorDiv) (rI CDiv fun i j => .int (i / j)) := opI fun i j _ _ _ _ _ hc q => by
  have h1 : (0 : Int) < j := hc.1
  have h2 : j < 1073741824 := hc.2
  exact floordiv_int (by omega) (by rw [Int.fdiv_eq_ediv_of_nonneg i (by omega)]; exact q) (.inl (PyProof.noPylong_small (by omega)))
theorem op_mod : OpR X (binaryOp .Mod) (rI (fun _ j => 0 < j) fun i j => .int (i % j)) := opI fun i j _ _ _ _ _ hc q => by
  have h1 : (0 : Int) < j := hc
  exact mod_int' (by omega) (by rw [Int.fmod_eq_emod_of_nonneg i (by omega)]; exact q)
theorem op_pow : OpR X (binaryOp .Pow) (rI CPow fun i j => .int (i ^ j.toNat)) := opI fun _ _ _ _ _ _ _ hc q => pow_int_small hc.1 hc.2.1 hc.2.2 q
end
def scal : V → V → Bool
  | .non, .non => true | .non, .int _ => true | .int _, .non => true | .non, .bl _ => true | .bl _, .non => true | .non, .str _ => true | .str _, .non => true
  | .int _, .int _ => true | .bl _, .bl _ => true | .str _, .str _ => true | .byt _, .byt _ => true
  | .int _, .str _ => true | .str _, .int _ => true | .bl _, .str _ => true | .str _, .bl _ => true
  | _, _ => false
def rEq : R2 := fun x y H Q => scal x y = true ∧ Q (.bl (decide (x = y))) H
def rNe : R2 := fun x y H Q => scal x y = true ∧ Q (.bl (!decide (x = y))) H
theorem dec_int {i j : Int} : decide (V.int i = V.int j) = (i == j) := by
  rw [Bool.eq_iff_iff]
  simp
theorem dec_bl {i j : Bool} : decide (V.bl i = V.bl j) = (i == j) := by
  rw [Bool.eq_iff_iff]
  simp
theorem dec_str {i j : Str} : decide (V.str i = V.str j) = (i == j) := by
  rw [Bool.eq_iff_iff]
  simp
theorem dec_byt {i j : Array UInt8} : decide (V.byt i = V.byt j) = (i.toList == j.toList) := by
  rw [Bool.eq_iff_iff]
  cases i
  cases j
  simp
section
variable {X : Cx} {a b c : Expr} {ta tb tc : TE} {pos : Pos}
theorem fin_bl {pins : List (Addr × Obj)} {σ : St} {H : Hp} {s : Shared} {Q : VK} {k k' : Bool} (I : Inv X pins σ H s) (q : Q (.bl k) H) (e : k = k') : EP X pins σ Q (.bool k') s := by
  subst e
  exact ⟨.bl k, H, I, rfl, q⟩
theorem op_eq : OpR X (compareOp .Eq) rEq := by
  intro pins s σ H x y v u Q I rx ry h
  obtain ⟨hs, q⟩ := h
  cases x with
  | non =>
    cases rx
    cases y with
    | non => cases ry; exact PySem.EqNone.eq_none_none (fin_bl I q (by simp))
    | bl j => cases ry; exact PySem.EqNone.eq_none_bool (fin_bl I q (by simp))
    | int j => obtain ⟨t', rfl⟩ := ry; exact PySem.EqNone.eq_none_int (fin_bl I q (by simp))
    | str j => obtain ⟨t', rfl⟩ := ry; exact PySem.EqNone.eq_none_str (fin_bl I q (by simp))
    | _ => exact absurd (show false = true from hs) Bool.false_ne_true
  | bl i =>
    cases rx
    cases y with
    | non => cases ry; exact PySem.EqNone.eq_bool_none (fin_bl I q (by simp))
    | bl j => cases ry; exact eq_bool (fin_bl I q dec_bl)
    | str j => obtain ⟨t', rfl⟩ := ry; exact PySem.EqMixed.eq_bool_str (fin_bl I q (by simp))
    | _ => exact absurd (show false = true from hs) Bool.false_ne_true
  | int i =>
    obtain ⟨t, rfl⟩ := rx
    cases y with
    | non => cases ry; exact PySem.EqNone.eq_int_none (fin_bl I q (by simp))
    | int j => obtain ⟨t', rfl⟩ := ry; exact eq_int (fin_bl I q dec_int)
    | str j => obtain ⟨t', rfl⟩ := ry; exact PySem.EqMixed.eq_int_str (fin_bl I q (by simp))
    | _ => exact absurd (show false = true from hs) Bool.false_ne_true
  | str i =>
    obtain ⟨t, rfl⟩ := rx
    cases y with
    | non => cases ry; exact PySem.EqNone.eq_str_none (fin_bl I q (by simp))
    | bl j => cases ry; exact PySem.EqMixed.eq_str_bool (fin_bl I q (by simp))
    | int j => obtain ⟨t', rfl⟩ := ry; exact PySem.EqMixed.eq_str_int (fin_bl I q (by simp))
    | str j => obtain ⟨t', rfl⟩ := ry; exact eq_str (fin_bl I q dec_str)
    | _ => exact absurd (show false = true from hs) Bool.false_ne_true
  | byt i =>
    obtain ⟨t, rfl⟩ := rx
    cases y with
    | byt j => obtain ⟨t', rfl⟩ := ry; exact PySem.W.eq_bytes (fin_bl I q dec_byt)
    | _ => exact absurd (show false = true from hs) Bool.false_ne_true
  | _ => cases y <;> exact absurd (show false = true from hs) Bool.false_ne_true
theorem op_ne : OpR X (compareOp .NotEq) rNe := by
  intro pins s σ H x y v u Q I rx ry h
  obtain ⟨hs, q⟩ := h
  cases x with
  | non =>
    cases rx
    cases y with
    | non => cases ry; exact PySem.EqNone.ne_none_none (fin_bl I q (by simp))
    | bl j => cases ry; exact PySem.EqNone.ne_none_bool (fin_bl I q (by simp))
    | int j => obtain ⟨t', rfl⟩ := ry; exact PySem.EqNone.ne_none_int (fin_bl I q (by simp))
    | str j => obtain ⟨t', rfl⟩ := ry; exact PySem.EqNone.ne_none_str (fin_bl I q (by simp))
    | _ => exact absurd (show false = true from hs) Bool.false_ne_true
  | bl i =>
    cases rx
    cases y with
    | non => cases ry; exact PySem.EqNone.ne_bool_none (fin_bl I q (by simp))
    | bl j => cases ry; exact ne_bool (fin_bl I q (congrArg not dec_bl))
    | str j => obtain ⟨t', rfl⟩ := ry; exact PySem.EqMixed.ne_bool_str (fin_bl I q (by simp))
    | _ => exact absurd (show false = true from hs) Bool.false_ne_true
  | int i =>
    obtain ⟨t, rfl⟩ := rx
    cases y with
    | non => cases ry; exact PySem.EqNone.ne_int_none (fin_bl I q (by simp))
    | int j => obtain ⟨t', rfl⟩ := ry; exact ne_int (fin_bl I q (congrArg not dec_int))
    | str j => obtain ⟨t', rfl⟩ := ry; exact PySem.EqMixed.ne_int_str (fin_bl I q (by simp))
    | _ => exact absurd (show false = true from hs) Bool.false_ne_true
  | str i =>
    obtain ⟨t, rfl⟩ := rx
    cases y with
    | non => cases ry; exact PySem.EqNone.ne_str_none (fin_bl I q (by simp))
    | bl j => cases ry; exact PySem.EqMixed.ne_str_bool (fin_bl I q (by simp))
    | int j => obtain ⟨t', rfl⟩ := ry; exact PySem.EqMixed.ne_str_int (fin_bl I q (by simp))
    | str j => obtain ⟨t', rfl⟩ := ry; exact ne_str (fin_bl I q (congrArg not dec_str))
    | _ => exact absurd (show false = true from hs) Bool.false_ne_true
  | byt i =>
    obtain ⟨t, rfl⟩ := rx
    cases y with
    | byt j => obtain ⟨t', rfl⟩ := ry; exact PySem.W.ne_bytes (fin_bl I q (congrArg not dec_byt))
    | _ => exact absurd (show false = true from hs) Bool.false_ne_true
  | _ => cases y <;> exact absurd (show false = true from hs) Bool.false_ne_true
theorem op_lt : OpR X (compareOp .Lt) (rI0 fun i j => .bl (decide (i < j))) := opB0 fun _ _ _ _ _ _ _ q => lt_int q
theorem op_gt : OpR X (compareOp .Gt) (rI0 fun i j => .bl (decide (j < i))) := opB0 fun _ _ _ _ _ _ _ q => gt_int q
theorem op_isN : OpR X (compareOp .Is) (fun x y H Q => y = .non ∧ Q (.bl (decide (x = .non))) H) := by
  intro pins s σ H x y v u Q I rx ry h
  obtain ⟨rfl, q⟩ := h
  cases ry
  refine is_none_gen (fin_bl I q ?_)
  cases x <;> first
    | (cases rx; rfl)
    | (obtain ⟨t, rfl⟩ := rx; rfl)
theorem op_notN : OpR X (compareOp .IsNot) (fun x y H Q => y = .non ∧ Q (.bl (!decide (x = .non))) H) := by
  intro pins s σ H x y v u Q I rx ry h
  obtain ⟨rfl, q⟩ := h
  cases ry
  refine isnot_none_gen (fin_bl I q ?_)
  cases x <;> first
    | (cases rx; rfl)
    | (obtain ⟨t, rfl⟩ := rx; rfl)
theorem nomark (b : Expr) {op : CmpOp} (h : op ≠ .In := by decide) (h2 : op ≠ .NotIn := by decide) : behindInMarks op b = false := by
  have e1 : (op == CmpOp.In) = false := by cases op <;> first | rfl | exact absurd rfl h
  have e2 : (op == CmpOp.NotIn) = false := by cases op <;> first | rfl | exact absurd rfl h2
  cases b <;> simp [behindInMarks, e1, e2]
theorem pe_cmpR {op : CmpOp} {r : R2} (ho : OpR X (compareOp op) r) (ha : PE X a ta) (hb : PE X b tb) (hm : behindInMarks op b = false) : PE X (.Compare a [op] [b] pos) (tOp r ta tb) := by
  intro pins s σ H Q I h
  exact wpAny_Compare1 (binT ha hb I h fun v u s2 x y H2 I2 rx ry q => ho pins s2 σ H2 x y v u Q I2 rx ry q) hm
def tTest (t : TE) : TT := fun σ H Q => t σ H fun x H' => ∃ k, x = .bl k ∧ Q k H'
theorem pt_cmpR {op : CmpOp} {r : R2} (ho : OpR X (compareOp op) r) (ha : PE X a ta) (hb : PE X b tb) (hm : behindInMarks op b = false) : PT X (.Compare a [op] [b] pos) (tTest (tOp r ta tb)) := by
  intro pins s σ H Q I h
  refine wpAny_isTrue_Compare1 (thn (ha pins s σ H _ I h) fun v s1 ⟨x, H1, I1, r1, q1⟩ => thn (hb pins s1 σ H1 _ I1 q1) fun u s2 ⟨y, H2, I2, r2, q2⟩ =>
    thn (ho pins s2 σ H2 x y v u _ I2 r1 r2 q2) fun c s3 ⟨z, H3, I3, r3, k, e, q3⟩ => ?_) hm
  subst e
  cases r3
  exact wpAny_truthy_bool ⟨H3, I3, q3⟩
theorem line63 : (sizeLine : Nat) < 2 ^ 63 := by rw [sizeLine_eq]; decide
theorem vals1 {x : V} {us : List Value} (r : Vals [x] us) : ∃ u, us = [u] ∧ RelV x u := by
  cases r with
  | cons r1 r2 => cases r2; exact ⟨_, rfl, r1⟩
theorem vals2 {x y : V} {us : List Value} (r : Vals [x, y] us) : ∃ u w', us = [u, w'] ∧ RelV x u ∧ RelV y w' := by
  cases r with
  | cons r1 r2 =>
    cases r2 with
    | cons r3 r4 => cases r4; exact ⟨_, _, rfl, r1, r3⟩
theorem call_min2 (hc : X.calm = true) : CallR X (.builtin "min") (fun xs H Q => ∃ i j, xs = [.int i, .int j] ∧ Q (.int (if j < i then j else i)) H) := by
  intro pins s σ H xs us Q I r h
  obtain ⟨i, j, rfl, q⟩ := h
  obtain ⟨u, w', rfl, ⟨t, rfl⟩, ⟨t', rfl⟩⟩ := vals2 r
  refine min_two_ints (I.ok.hd hc) fun h' tk k => ⟨_, H, I.kept k, ?_, q⟩
  by_cases hj : j < i
  · rw [if_pos hj, if_pos hj]; exact ⟨_, rfl⟩
  · rw [if_neg hj, if_neg hj]; exact ⟨_, rfl⟩
theorem call_int1 : CallR X (.type "int") (fun xs H Q => (∃ i, xs = [.int i] ∧ Q (.int i) H) ∨ ∃ k, xs = [.bl k] ∧ Q (.int (if k then 1 else 0)) H) := by
  intro pins s σ H xs us Q I r h
  rcases h with ⟨i, rfl, q⟩ | ⟨k, rfl, q⟩
  · obtain ⟨u, rfl, t, rfl⟩ := vals1 r
    exact call_int_int ⟨.int i, H, I, ⟨_, rfl⟩, q⟩
  · obtain ⟨u, rfl, r1⟩ := vals1 r
    cases r1
    exact call_int_bool ⟨.int (if k then 1 else 0), H, I.tok _, ⟨_, rfl⟩, q⟩
end
end L2
namespace L2
open PySem PySem.Spec PyProof.Rows
structure ObjM (h : Heap) (x dx C : Addr) (mA : Str → Option Value) : Prop where
  obj : h.get? x = some (PySem.W.instObj C dx)
  ns : h.Ns1 dx mA
  ne : dx ≠ x
theorem lookIn_ns {h : Heap} {dx : Addr} {mA : Str → Option Value} (n : h.Ns1 dx mA) : ∃ od, h.get? dx = some od ∧ ∀ name, PySem.W.lookIn name od = some (mA name) := by
  obtain ⟨o, es, ep, ho, hd, hk, _, hm⟩ := n
  refine ⟨o, ho, fun name => ?_⟩
  have e := hm name
  unfold nsFind findBy at e
  rw [← Array.find?_toList] at e
  unfold PySem.W.lookIn
  rw [hd]
  dsimp only
  split
  · rename_i y q
    rw [q] at e
    exact congrArg some e
  · rename_i q
    rw [q] at e
    have a : es.toList.any (·.refKey) = false := by
      rw [List.any_eq_false]
      intro y hy
      obtain ⟨z, t, hkey⟩ := hk y (Array.mem_toList_iff.mp hy)
      simp [DictEntry.refKey, hkey]
    have a' : ¬ es.toList.any (·.refKey) = true := by rw [a]; exact Bool.false_ne_true
    rw [if_neg a']
    exact congrArg some e
theorem ObjM.look {h : Heap} {x dx C : Addr} {mA : Str → Option Value} (I : ObjM h x dx C mA) : ∃ od, PySem.W.InstAt h x (PySem.W.instObj C dx) C (some od) ∧ ∀ name, PySem.W.lookIn name od = some (mA name) :=
  let ⟨od, ho, hl⟩ := lookIn_ns I.ns
  ⟨od, ⟨I.obj, rfl, rfl, ho⟩, hl⟩
section
variable {prog : Program} {w : World} {A : Around} {E : Value → Shared → Prop} {s : Shared} {K : PySem.W.Frag} {x dx C f : Addr} {mA : Str → Option Value} {name : Str} {v : Value}
end
section
variable {P : Program} {w : World} {H H' : Hp} {h h' : Heap} {a C dx : Addr} {fs fs' : List (Str × V)}
end
structure Cls (K : PySem.W.Frag) (C : Addr) : Prop where
  pg : PySem.W.plainGet K C Str.empty = true
  hd : PySem.W.hasDictIn K C = true
  po : PySem.W.plainOver K C = true
  sa : PySem.W.findIn K (.ref C) "__setattr__" = some (some (.builtin "object.__setattr__"))
theorem Cls.get {K : PySem.W.Frag} {C : Addr} (c : Cls K C) (f : Str) : PySem.W.plainGet K C f = true := c.pg
section
variable {X : Cx} {pins : List (Addr × Obj)} {σ : St} {H : Hp} {s : Shared} {a C dx : Addr} {fs : List (Str × V)} {f : Str} {v : V} {A : Around} {E : Value → Shared → Prop}
theorem Inv.made (I : Inv X pins σ H s) : Inv X pins σ (upd (upd H s.heap.objs.size (.own (s.heap.objs.size + 1))) (s.heap.objs.size + 1) (.ins C s.heap.objs.size []))
    { s with heap := (s.heap.push PySem.W.emptyDict).push (PySem.W.instObj C s.heap.objs.size) } := by
  have e1 : (s.heap.push PySem.W.emptyDict).get? s.heap.objs.size = some PySem.W.emptyDict := Heap.get?_push_size s.heap rfl
  have e2 : ((s.heap.push PySem.W.emptyDict).push (PySem.W.instObj C s.heap.objs.size)).get? (s.heap.objs.size + 1) = some (PySem.W.instObj C s.heap.objs.size) := by
    have := Heap.get?_push_size (s.heap.push PySem.W.emptyDict) (o := PySem.W.instObj C s.heap.objs.size) rfl
    rwa [Heap.size_push] at this
  have e3 : (s.heap.push PySem.W.emptyDict).Ns s.heap.objs.size (fun _ => none) := ⟨PySem.W.emptyDict, #[], _, e1, rfl, (fun e he => absurd he (by simp)), fun _ => rfl⟩
  have I1 := I.laid (a := s.heap.objs.size) (o := .own (s.heap.objs.size + 1)) (h' := s.heap.push PySem.W.emptyDict) (t' := s.toks) (fun b u q => Heap.get?_push_of_some _ q) (Nat.le_refl _) ⟨_, e1⟩
  refine I1.laid (a := s.heap.objs.size + 1) (o := .ins C s.heap.objs.size []) (t' := s.toks) (fun b u q => Heap.get?_push_of_some _ q) (Nat.le_of_eq (Heap.size_push _ _)) ?_
  have ne : s.heap.objs.size ≠ s.heap.objs.size + 1 := Nat.ne_of_lt (Nat.lt_succ_self _)
  refine ⟨by rw [upd_ne ne, upd_same], Nat.zero_le _, ne, e2, fun _ => none, (Heap.Ns1.of_empty e3).at fun o q => Heap.get?_push_of_some _ q, fun _ => True.intro, fun y hy => absurd rfl hy⟩
end
section
variable {X : Cx} {o e value : Expr} {f : Str} {pos pos' tpos : Pos} {ta tv : TE}
end
section
variable {X : Cx} {pins : List (Addr × Obj)} {σ : St} {H : Hp} {s : Shared} {A : Around} {E : Value → Shared → Prop} {Q : Value → Shared → Prop} {c : Value} {b : Bool}
end
end L2
namespace L2
open PySem PySem.Spec PyProof.Rows
structure Room (k : Nat) (A : Around) : Prop where
  hd : A.handled = none
  dp : A.depth + 3 * k + 5 < recursionLimit
  un : A.units + 16 * k + 200 < cLine
theorem Room.mono {j k : Nat} {A : Around} (r : Room k A) (h : j ≤ k) : Room j A := ⟨r.hd, by have := r.dp; omega, by have := r.un; omega⟩
theorem Room.deeper {k : Nat} {A : Around} (r : Room (k + 1) A) (env : Env) : Room k (A.deeper env) :=
  ⟨r.hd, by have := r.dp; show A.depth + 1 + 3 * k + 5 < _; omega, by have := r.un; show A.units + 3 + 16 * k + 200 < _; omega⟩
theorem Room.in1 {k : Nat} {A : Around} (r : Room (k + 1) A) : Room k A.in1 :=
  ⟨r.hd, by have := r.dp; show A.depth + 3 * k + 5 < _; omega, by have := r.un; show A.units + 1 + 16 * k + 200 < _; omega⟩
theorem Room.depth {k : Nat} {A : Around} (r : Room k A) : A.depth < recursionLimit := by have := r.dp; omega
theorem Room.units {k : Nat} {A : Around} (r : Room k A) : A.units + 64 < cLine := by have := r.un; omega
def tNil : TA := fun _ H Q => Q [] H
def tCons (ta : TE) (tr : TA) : TA := fun σ H Q => ta σ H fun x H1 => tr σ H1 fun xs H2 => Q (x :: xs) H2
section
variable {X : Cx} {e : Expr} {es : List Expr} {te : TE} {t : TA} {pos : Pos}
theorem pa_nil : PA X [] tNil := fun _ _ _ _ H Q I h => Calls.spliced_nil ⟨[], H, I, .nil, h⟩
theorem pa_cons (ha : PE X e te) (hr : PA X es t) (hs : starEach (e :: es) X.env = (false, eval e X.env) :: starEach es X.env := by rfl) : PA X (e :: es) (tCons te t) := by
  intro pos pins s σ H Q I h
  rw [hs]
  show wpAny _ _ (spliced ((false, eval e X.env) :: backTo pos (starEach es X.env))) _ _ s
  refine Calls.spliced_cons (thn (ha pins s σ H _ I h) fun u s1 ⟨x, H1, I1, r1, q1⟩ => ?_)
  exact thn (hr pos pins s1 σ H1 _ I1 q1) fun us s2 ⟨xs, H2, I2, r2, q2⟩ => ⟨x :: xs, H2, I2, .cons r1 r2, q2⟩
def tTup (t : TA) : TE := fun σ H Q => t σ H fun xs H1 => xs.length ≤ sizeLine ∧ ∀ p, H1 p = none → Q (.ref p) (upd H1 p (.tup xs))
def tLst (t : TA) : TE := fun σ H Q => t σ H fun xs H1 => xs.length ≤ sizeLine ∧ ∀ p, H1 p = none → Q (.ref p) (upd H1 p (.lst xs))
theorem pe_tup {x1} (h : PA X es t) : PE X (.Tuple es x1 pos) (tTup t) := by
  intro pins s σ H Q I hq
  refine wpAny_Tuple_spliced (thn (h pos pins s σ H _ I hq) fun us s1 ⟨xs, H1, I1, r, z, q⟩ => ⟨by rw [← r.length]; exact z, ?_⟩)
  have hf : H1 s1.heap.objs.size = none := I1.hok.fresh (Nat.le_refl _)
  refine ⟨.ref s1.heap.objs.size, upd H1 s1.heap.objs.size (.tup xs), I1.laid (t' := s1.toks) (fun b u e => Heap.get?_push_of_some _ e) (Nat.le_refl _) ?_, rfl, q _ hf⟩
  exact ⟨z, us, r, ⟨_, Heap.get?_push_size _ rfl, rfl, rfl, _, rfl⟩⟩
theorem pe_lst (h : PA X es t) : PE X (.List es pos) (tLst t) := by
  intro pins s σ H Q I hq
  refine wpAny_List_spliced (thn (h pos pins s σ H _ I hq) fun us s1 ⟨xs, H1, I1, r, z, q⟩ => ⟨by rw [← r.length]; exact z, ?_⟩)
  have hf : H1 s1.heap.objs.size = none := I1.hok.fresh (Nat.le_refl _)
  refine ⟨.ref s1.heap.objs.size, upd H1 s1.heap.objs.size (.lst xs), I1.laid (t' := s1.toks) (fun b u e => Heap.get?_push_of_some _ e) (Nat.le_refl _) ?_, rfl, q _ hf⟩
  exact ⟨z, us, 0, r, Heap.get?_push_size _ rfl⟩
end
abbrev Sp := List V → Hp → VK → XK → Prop
abbrev CXT := List Env → Hp → Shared → XK → Value → Shared → Prop
structure Env0 (P : Program) (w : World) (K : PySem.W.Frag) (mg : Str → Option Value) (base : Heap) (A : Around) (outer : List Env) (s : Shared) (H : Hp) : Prop where
  frames : A.frames = some outer
  mod : Mod K mg base
  bs : ∀ b o, base.get? b = some o → s.heap.get? b = some o ∧ H b = none
  bsz : base.objs.size ≤ s.heap.objs.size
  funs : s.heap.FunFrames base outer
  frf : ∀ b ∈ frs outer, H b = none
  hok : HOk P w H s.heap
  bare : AllBare s.gens
def CE (outer : List Env) (P : Program) (w : World) (H : Hp) (s : Shared) (Q : VK) (u : Value) (s' : Shared) : Prop :=
  ∃ v H', s'.os = s.os ∧ AllBare s'.gens ∧ Un (frs outer) [] H H' s.heap s'.heap ∧ HOk P w H' s'.heap ∧ RelV v u ∧ Q v H'
def CR (CX : CXT) (outer : List Env) (P : Program) (w : World) (H : Hp) (s : Shared) (Q : VK) (E : XK) (r : Result) (s' : Shared) : Prop :=
  match r with
  | .ok (.ret u) => CE outer P w H s Q u s'
  | .ok _ => False
  | .error e => CX outer H s E e s'
structure FnOk (P : Program) (w : World) (K : PySem.W.Frag) (mg : Str → Option Value) (base : Heap) (CX : CXT) (k : Nat) (f : Addr) (fd : FuncData) (ps : List Str) (sp : Sp) : Prop where
  len : ∀ vs H Q E, sp vs H Q E → vs.length = ps.length
  run : ∀ (A : Around) (outer : List Env) (s : Shared) (H : Hp) (args : Args) (us : List Value) (vs : List V) (Q : VK) (E : XK), Room k A → Env0 P w K mg base A outer s H → BindsTo s fd args (ps.zip us) → Vals vs us → sp vs H Q E →
    codeAny (model P w) A (.call (.ref f) args) (CR CX outer P w H s Q E) s
theorem FnOk.mono {P : Program} {w : World} {K : PySem.W.Frag} {mg : Str → Option Value} {base : Heap} {CX : CXT} {j k : Nat} {f : Addr} {fd : FuncData} {ps : List Str} {sp : Sp} (F : FnOk P w K mg base CX j f fd ps sp) (h : j ≤ k) :
    FnOk P w K mg base CX k f fd ps sp := ⟨F.len, fun A outer s H args us vs Q E hr => F.run A outer s H args us vs Q E (hr.mono h)⟩
theorem FnOk.imp {P : Program} {w : World} {K : PySem.W.Frag} {mg : Str → Option Value} {base : Heap} {CX : CXT} {k : Nat} {f : Addr} {fd : FuncData} {ps : List Str} {sp sp' : Sp} (F : FnOk P w K mg base CX k f fd ps sp)
    (h : ∀ vs H Q E, sp' vs H Q E → sp vs H Q E) : FnOk P w K mg base CX k f fd ps sp' :=
  ⟨fun vs H Q E q => F.len vs H Q E (h _ _ _ _ q), fun A outer s H args us vs Q E hr he hb hv hs => F.run A outer s H args us vs Q E hr he hb hv (h _ _ _ _ hs)⟩
theorem Env0.in1 {P : Program} {w : World} {K : PySem.W.Frag} {mg : Str → Option Value} {base : Heap} {A : Around} {outer : List Env} {s : Shared} {H : Hp} (e : Env0 P w K mg base A outer s H) :
    Env0 P w K mg base A.in1 outer s H := ⟨e.frames, e.mod, e.bs, e.bsz, e.funs, e.frf, e.hok, e.bare⟩
section
variable {X : Cx} {pins : List (Addr × Obj)} {σ : St} {H : Hp} {s s' : Shared}
theorem Inv.env0 (I : Inv X pins σ H s) : Env0 X.prog X.w X.K X.mg X.base X.A X.stack s H :=
  ⟨I.ok.frames, I.ok.mod, I.bs, Nat.le_trans I.ok.bsz I.sz, I.stack, I.stkFree, I.hok, I.bare⟩
theorem Inv.after {Q : VK} {u : Value} (I : Inv X pins σ H s) (h : CE X.stack X.prog X.w H s Q u s') : EP X pins σ Q u s' := by
  obtain ⟨v, H', os, bare, un, hok, r, q⟩ := h
  obtain ⟨hh, g, d, t, os'⟩ := s'
  obtain rfl : os' = s.os := os
  exact ⟨v, H', I.call (h' := hh) (g' := g) (d' := d) (t' := t) (ch := []) un hok bare (fun b z => absurd z (by simp)), r, q⟩
end
def tCall (sp : Sp) (dvs : List V) (E : XK) (t : TA) : TE := fun σ H Q => t σ H fun vs H1 => sp (vs ++ dvs) H1 Q E
def Binds (K : PySem.W.Frag) (fd : FuncData) (ps : List Str) (ds : List Value) : Prop :=
  ∀ (s : Shared) (us : List Value), K.In s.heap → (us ++ ds).length = ps.length → BindsTo s fd ⟨us, []⟩ (ps.zip (us ++ ds))
theorem Binds.all {K : PySem.W.Frag} {fd : FuncData} {ps : List Str} (h : ∀ us : List Value, us.length = ps.length → bindArgs fd ⟨us, []⟩ = pure (ps.zip us)) : Binds K fd ps [] := fun s us _ hl => by
  rw [List.append_nil] at hl ⊢
  exact .of_eq (h us hl)
def Passes (CX : CXT) (X : Cx) (E : XK) : Prop := ∀ (pins : List (Addr × Obj)) (σ : St) (H : Hp) (s : Shared) (e : Value) (s' : Shared), Inv X pins σ H s → CX X.stack H s E e s' → X.xe e s'
section
variable {X : Cx} {CX : CXT} {k : Nat} {f C : Addr} {fd : FuncData} {ps : List Str} {sp : Sp} {dvs : List V} {ds : List Value} {E : XK} {x m : Str} {p pos apos : Pos} {e o : Expr} {es : List Expr} {ta : TE} {t : TA}
theorem run_fn {pins : List (Addr × Obj)} {σ : St} {H : Hp} {s : Shared} {Q : VK} {us : List Value} {vs : List V} (F : FnOk X.prog X.w X.K X.mg X.base CX k f fd ps sp) (hr : Room k X.A) (hb : Binds X.K fd ps ds) (hd : Vals dvs ds) (hx : Passes CX X E)
    (I : Inv X pins σ H s) (r : Vals vs us) (h : sp (vs ++ dvs) H Q E) : wpAny (model X.prog X.w) X.A (call (.ref f) us) (EP X pins σ Q) X.xe s := by
  have r2 : Vals (vs ++ dvs) (us ++ ds) := r.append hd
  have hl : (us ++ ds).length = ps.length := by rw [← r2.length]; exact F.len _ _ _ _ h
  refine wpAny_call (codeAny_mono (F.run X.A X.stack s H ⟨us, []⟩ (us ++ ds) (vs ++ dvs) Q E hr I.env0 (hb s us I.kIn hl) r2 h) fun r s' hq => ?_)
  cases r with
  | error e => exact hx pins σ H s e s' I hq
  | ok fl =>
    cases fl with
    | ret u => exact I.after hq
    | next => exact False.elim hq
    | brk => exact False.elim hq
    | cont => exact False.elim hq
theorem pe_call (F : FnOk X.prog X.w X.K X.mg X.base CX k f fd ps sp) (hr : Room k X.A) (hg : Gl X x) (hm : X.mg x = some (.ref f)) (hk : PySem.W.keepIn X.K (.ref f) = true) (hb : Binds X.K fd ps ds) (hd : Vals dvs ds) (hx : Passes CX X E)
    (ha : PA X (e :: es) t) (hdb : (x == ("__debug__" : Str)) = false := by decide) (he : starEach (e :: es) X.env = (false, eval e X.env) :: starEach es X.env := by rfl) (hpl : (backTo pos (starEach es X.env)).any (·.1) = false := by rfl) :
    PE X (.Call (.Name x p) (e :: es) [] pos) (tCall sp dvs E t) := by
  intro pins s σ H Q I h
  refine wpAny_Call_Name_kw (ld_glob I hg hm ?_ hdb)
  refine PySem.W.callWith_K (h₀ := X.base) I.ok.mod.kin hk (thn (ha pos pins s σ H _ I h) fun us s1 ⟨vs, H1, I1, r, q⟩ => ⟨I1.kIn, ?_⟩) he hpl
  exact run_fn F hr hb hd hx I1 r q
end
section
variable {X : Cx} {CX : CXT} {k : Nat} {f C : Addr} {fd : FuncData} {ps ks : List Str} {sp : Sp} {E : XK} {x m : Str} {p pos apos kpos : Pos} {e o : Expr} {es : List Expr} {kws : List Keyword} {te ta : TE} {t tk : TA} {nm : Option Str}
variable {g : List Value → List Value → List Value} {gV : List V → List V → List V}
end
structure FnScope (N P : List Str) (sc : Scope) : Prop where
  kind : sc.kind = .function
  co : sc.isCoroutine = false
  gen : sc.isGenerator = false
  nd : N.Nodup
  pre : N.take P.length = P
  par : ∀ x ∈ P, sc.names.lookup x = some .local ∨ sc.names.lookup x = some .cell
  nofree : ∀ y ∈ sc.names, y.2 ≠ .free
theorem bindL_out {kindOf : Str → Option NameKind} {x : Str} : ∀ {binds : List (Str × Value)} {m : Str → Option Value}, (∀ v, (x, v) ∉ binds) → bindL kindOf binds m x = m x
  | [], _, _ => rfl
  | (n, v) :: r, m, h => by
    unfold bindL
    rw [bindL_out fun w hw => h w (List.mem_cons_of_mem _ hw)]
    split
    · have : x ≠ n := by rintro rfl; exact h v List.mem_cons_self
      simp [this]
    · rfl
theorem bindC_out {kindOf : Str → Option NameKind} {x : Str} : ∀ {binds : List (Str × Value)} {m : Str → Option Value}, (∀ v, (x, v) ∉ binds) → bindC kindOf binds m x = m x
  | [], _, _ => rfl
  | (n, v) :: r, m, h => by
    unfold bindC
    rw [bindC_out fun w hw => h w (List.mem_cons_of_mem _ hw)]
    split
    · rfl
    · have : x ≠ n := by rintro rfl; exact h v List.mem_cons_self
      simp [this]
theorem bindL_get {kindOf : Str → Option NameKind} {x : Str} {v : Value} : ∀ {P : List Str} {vs : List Value} {i : Nat} {m : Str → Option Value}, P.Nodup → P[i]? = some x → vs[i]? = some v → kindOf x = some .local →
    bindL kindOf (P.zip vs) m x = some v
  | [], _, _, _, _, h, _, _ => by simp at h
  | _ :: _, [], _, _, _, _, h, _ => by simp at h
  | p :: P, w :: vs, 0, m, nd, h1, h2, hk => by
    simp at h1 h2; subst h1; subst h2
    show bindL kindOf ((p, w) :: P.zip vs) m p = _
    unfold bindL
    rw [bindL_out fun v hv => (List.nodup_cons.mp nd).1 (List.of_mem_zip hv).1, if_pos hk]
    simp
  | p :: P, w :: vs, i + 1, m, nd, h1, h2, hk => by
    show bindL kindOf ((p, w) :: P.zip vs) m x = _
    unfold bindL
    exact bindL_get (i := i) (List.nodup_cons.mp nd).2 (by simpa using h1) (by simpa using h2) hk
theorem bindC_get {kindOf : Str → Option NameKind} {x : Str} {v : Value} : ∀ {P : List Str} {vs : List Value} {i : Nat} {m : Str → Option Value}, P.Nodup → P[i]? = some x → vs[i]? = some v → kindOf x ≠ some .local →
    bindC kindOf (P.zip vs) m x = some v
  | [], _, _, _, _, h, _, _ => by simp at h
  | _ :: _, [], _, _, _, _, h, _ => by simp at h
  | p :: P, w :: vs, 0, m, nd, h1, h2, hk => by
    simp at h1 h2; subst h1; subst h2
    show bindC kindOf ((p, w) :: P.zip vs) m p = _
    unfold bindC
    rw [bindC_out fun v hv => (List.nodup_cons.mp nd).1 (List.of_mem_zip hv).1, if_neg hk]
    simp
  | p :: P, w :: vs, i + 1, m, nd, h1, h2, hk => by
    show bindC kindOf ((p, w) :: P.zip vs) m x = _
    unfold bindC
    exact bindC_get (i := i) (List.nodup_cons.mp nd).2 (by simpa using h1) (by simpa using h2) hk
def start (N : List Str) (vs : List V) : St := vs.map some ++ List.replicate (N.length - vs.length) none
def cxOf (CX : CXT) (P : Program) (w : World) (K : PySem.W.Frag) (mg : Str → Option Value) (base : Heap) (N : List Str) (qual : Str) (scope : Scope) (f : Addr) (cd : Value) (A : Around) (outer : List Env) (s : Shared) (H : Hp) (E : XK) : Cx where
  prog := P
  w := w
  K := K
  mg := mg
  base := base
  A := A.deeper (envOfC qual scope s.heap.objs.size f cd)
  N := N
  s_0 := s
  H_0 := H
  env := envOfC qual scope s.heap.objs.size f cd
  outer := outer
  stack := envOfC qual scope s.heap.objs.size f cd :: outer
  ex := []
  calm := true
  fn := fun _ => true
  pn := []
  xe := fun e s' => wpAny (model P w) (A.deeper (envOfC qual scope s.heap.objs.size f cd)) (leaving (envOfC qual scope s.heap.objs.size f cd) e) (fun _ s'' => CX outer H s E e s'') (fun e' s'' => CX outer H s E e' s'') s'
theorem cell_has {sc : Scope} {n : Nat} {x : Str} (h : sc.names.lookup x = some .cell) : ∃ c, (cellsFrom n sc.names []).lookup x = some c := by
  have q := PySem.W.cellsFrom_some sc.names n [] (.inl h)
  exact Option.isSome_iff_exists.mp q
theorem inv_start {CX : CXT} {P : Program} {w : World} {K : PySem.W.Frag} {mg : Str → Option Value} {base : Heap} {N ps : List Str} {qual : Str} {scope : Scope} {f : Addr} {cd : Value} {A : Around} {outer : List Env} {s s1 : Shared} {H : Hp} {E : XK} {us : List Value} {vs : List V}
    (S : FnScope N ps scope) (hd : A.handled = none) (e0 : Env0 P w K mg base A outer s H) (hl : vs.length = ps.length) (r : Vals vs us)
    (x : InCallC s s.heap.objs.size (bindL (envOfC qual scope s.heap.objs.size f cd).kindOf (ps.zip us) fun _ => none) (cellsFrom (s.heap.objs.size + 1) scope.names []) (bindC (envOfC qual scope s.heap.objs.size f cd).kindOf (ps.zip us) fun _ => none) s1) :
    Inv (cxOf CX P w K mg base N qual scope f cd A outer s H E) [] (start N vs) H s1 := by
  have hpl : ps.length ≤ N.length := by have := congrArg List.length S.pre; rw [List.length_take] at this; omega
  obtain ⟨h1, tk, rfl, hk⟩ := x.done
  have noA : ∀ b : Addr, b ∉ (cxOf CX P w K mg base N qual scope f cd A outer s H E).ex := fun b z => absurd (show b ∈ ([] : List Addr) from z) (by simp)
  refine ⟨⟨e0.mod, S.kind, rfl, rfl, Nat.le_refl _, fun y z c h1 h2 => ?_, fun y hy => ?_, fun y c _ h => ?_, fun _ => hd, Around.frames_deeper e0.frames, .inr ⟨rfl, rfl⟩, fun b z => absurd z (noA b), e0.bs, e0.bsz, fun b _ _ => noA b, fun b z => absurd z (noA b), e0.funs, e0.frf⟩,
    rfl, e0.bare, Un.kept hk, ⟨_, x.toInCall.ns, fun i y v h1 h2 h3 => ?_⟩, fun y c h => ⟨_, x.cell y c h⟩, e0.hok.fresh (Nat.le_refl _), fun y c h => ?_, fun p hp => absurd (show p ∈ ([] : List (Addr × Obj)) from hp) (by simp), e0.hok.kept hk, ?_⟩
  · exact name_of_addr x.apart (PySem.mem_of_lookup h1) (PySem.mem_of_lookup h2)
  · have hy : scope.names.lookup y = some .cell ∨ scope.names.lookup y = some .free := hy
    rcases hy with hy | hy
    · exact cell_has hy
    · exact absurd rfl (S.nofree _ (PySem.mem_of_lookup hy))
  · exact Nat.le_of_lt (x.above y c (PySem.mem_of_lookup h))
  · have hi : i < vs.length := by
      unfold start at h2
      by_cases hi : i < vs.length
      · exact hi
      · rw [List.getElem?_append_right (by simpa using hi)] at h2
        rw [List.getElem?_replicate] at h2
        split at h2 <;> cases h2
    have ha : vs[i]? = some v := by
      unfold start at h2
      rw [List.getElem?_append_left (by simpa using hi), List.getElem?_map] at h2
      cases e : vs[i]? with
      | none => rw [e] at h2; cases h2
      | some a => rw [e] at h2; cases h2; rfl
    obtain ⟨u, hu, rv⟩ := r.get ha
    have hp : ps[i]? = some y := by
      rw [← S.pre, List.getElem?_take_of_lt (by omega)]; exact h1
    have ndP : ps.Nodup := by rw [← S.pre]; exact S.nd.sublist (List.take_sublist _ _)
    refine ⟨u, rv, ?_⟩
    rcases S.par y (List.mem_of_getElem? hp) with k | k
    · exact .inl ⟨k, bindL_get ndP hp hu k⟩
    · obtain ⟨c, e⟩ := cell_has (n := s.heap.objs.size + 1) k
      refine .inr ⟨.inl k, c, e, ?_⟩
      have q := x.cell y c e
      rw [bindC_get ndP hp hu (by show scope.names.lookup y ≠ _; rw [k]; decide)] at q
      exact q
  · exact e0.hok.fresh (Nat.le_of_lt (x.above y c (PySem.mem_of_lookup h)))
  · unfold start
    show _ = N.length
    rw [List.length_append, List.length_map, List.length_replicate]
    omega
theorem fn_of {CX : CXT} {P : Program} {w : World} {K : PySem.W.Frag} {mg : Str → Option Value} {base : Heap} {k : Nat} {f : Addr} {name qual : Str} {params : Arguments} {body : List Stmt} {scope : Scope} {dV kV doc pm cdv ct oc : Value} {an od : Option Addr}
    {osl : Array (Option Value)} {N ps : List Str} {sp : Sp} (lk : K.lookup f = some ⟨oc, od, .func (PySem.W.fnOf name qual params body scope dV kV doc pm an cdv ct), osl⟩) (hcd : PySem.W.codeIn K cdv qual = true) (S : FnScope N ps scope)
    (len : ∀ vs H Q E, sp vs H Q E → vs.length = ps.length)
    (hbody : ∀ (A : Around) (outer : List Env) (s : Shared) (H : Hp) (vs : List V) (Q : VK) (E : XK), Room k (A.deeper (envOfC qual scope s.heap.objs.size f cdv)) → sp vs H Q E →
      ∃ t, PSs (cxOf CX P w K mg base N qual scope f cdv A outer s H E) body t ∧ t { nx := fun _ H' => Q .non H', rt := Q } (start N vs) H) :
    FnOk P w K mg base CX (k + 1) f (PySem.W.fnOf name qual params body scope dV kV doc pm an cdv ct) ps sp := by
  refine ⟨len, fun A outer s H args us vs Q E hr e0 hb r hsp => ?_⟩
  have hl := len _ _ _ _ hsp
  have KX : K.In s.heap := e0.mod.kin.keeps fun b o e => (e0.bs b o e).1
  have lim : s.heap.NoLimit := e0.mod.nolimit.keeps fun b o e => (e0.bs b o e).1
  have hkind : ∀ y ∈ ps.zip us, scope.names.lookup y.1 = some .local ∨ (scope.names.lookup y.1 = some .cell ∧ ((cellsFrom (s.heap.objs.size + 1) scope.names []).lookup y.1).isSome = true) := fun ⟨n, v⟩ hy => by
    rcases S.par n (List.of_mem_zip hy).1 with q | q
    · exact .inl q
    · exact .inr ⟨q, PySem.W.cellsFrom_some _ _ _ (.inl q)⟩
  refine codeAny_call_function hr.depth (KX _ _ lk) rfl S.co S.gen rfl (PySem.W.codeRec_of KX hcd) (hb _ _ _ _ ?_)
  refine wpAny_newFunctionEnv_cells S.kind hkind fun env he s1 x => ?_
  subst he
  refine ⟨lim.keeps x.toInCall.keep, codeAny_func ?_⟩
  obtain ⟨t, ht, hq⟩ := hbody A outer s H vs Q E (hr.deeper _) hsp
  have I : Inv (cxOf CX P w K mg base N qual scope f cdv A outer s H E) [] (start N vs) H s1 := inv_start S hr.hd e0 hl r x
  refine wpAny_mono (ht [] s1 (start N vs) H _ I hq) (fun fl s' hs => ?_) fun e s' hs => hs
  have fin : ∀ {σ' : St} {H' : Hp} {v : V} {u : Value}, Inv (cxOf CX P w K mg base N qual scope f cdv A outer s H E) [] σ' H' s' → RelV v u → Q v H' → CE outer P w H s Q u s' :=
    fun {σ' H' v u} J rv q => ⟨v, H', J.os, J.bare, J.base, J.hok, rv, q⟩
  cases fl with
  | ret u =>
    obtain ⟨v, σ', H', J, rv, q⟩ := hs
    exact fin J rv q
  | next =>
    obtain ⟨σ', H', J, q⟩ := hs
    exact fin (v := V.non) (u := Value.none) J rfl q
  | brk =>
    obtain ⟨_, _, _, q⟩ := hs
    exact False.elim q
  | cont =>
    obtain ⟨_, _, _, q⟩ := hs
    exact False.elim q
end L2
namespace L2
open PySem PySem.Spec PyProof.Rows
section
variable {X : Cx} {x : Str} {p pos : Pos} {e : Expr} {es : List Expr} {t : TA} {id T : String} {r : List V → Hp → VK → Prop}
def tCB (r : List V → Hp → VK → Prop) (t : TA) : TE := fun σ H Q => t σ H fun vs H1 => r vs H1 Q
theorem pe_callB (hc : CallR X (.builtin id) r) (hg : Gl X x) (hm : X.mg x = none) (hv : bootBuiltins x = some (.builtin id)) (ha : PA X (e :: es) t) (hn : x ≠ "__name__" := by decide) (hdb : (x == ("__debug__" : Str)) = false := by decide)
    (he : starEach (e :: es) X.env = (false, eval e X.env) :: starEach es X.env := by rfl) (hpl : (backTo pos (starEach es X.env)).any (·.1) = false := by rfl) : PE X (.Call (.Name x p) (e :: es) [] pos) (tCB r t) := by
  intro pins s σ H Q I h
  refine wpAny_Call_Name_kw (ld_blt I hg hm hv ?_ hn hdb)
  exact PyProof.Rows.callWith_builtin1 (thn (ha pos pins s σ H _ I h) fun us s1 ⟨vs, H1, I1, r1, q1⟩ => hc pins s1 σ H1 vs us Q I1 r1 q1) he hpl
theorem pe_callTy (hc : CallR X (.type T) r) (hg : Gl X x) (hm : X.mg x = none) (hv : bootBuiltins x = some (.type T)) (ha : PA X (e :: es) t) (hn : x ≠ "__name__" := by decide) (hdb : (x == ("__debug__" : Str)) = false := by decide)
    (he : starEach (e :: es) X.env = (false, eval e X.env) :: starEach es X.env := by rfl) (hpl : (backTo pos (starEach es X.env)).any (·.1) = false := by rfl) : PE X (.Call (.Name x p) (e :: es) [] pos) (tCB r t) := by
  intro pins s σ H Q I h
  refine wpAny_Call_Name_kw (ld_blt I hg hm hv ?_ hn hdb)
  exact PyProof.Rows.callWith_type1 (thn (ha pos pins s σ H _ I h) fun us s1 ⟨vs, H1, I1, r1, q1⟩ => hc pins s1 σ H1 vs us Q I1 r1 q1) he hpl
theorem pe_callTy0 (hc : CallR X (.type T) r) (hg : Gl X x) (hm : X.mg x = none) (hv : bootBuiltins x = some (.type T)) (hn : x ≠ "__name__" := by decide) (hdb : (x == ("__debug__" : Str)) = false := by decide) :
    PE X (.Call (.Name x p) [] [] pos) (tCB r tNil) := by
  intro pins s σ H Q I h
  refine wpAny_Call_Name_kw (ld_blt I hg hm hv ?_ hn hdb)
  exact PyProof.Rows.callWith_type0 (hc pins s σ H [] [] Q I .nil h)
end
end L2
namespace HT
open PySem PyProof.Rows
section
open PySem.SeqAt
open PySem.AutoSeq1 (wpAny_loadPart')
open PySem.MeetsSeq PySem.MeetsSeq2 PySem.MeetsSeq3
end
section
variable {prog : Program} {w : World} {A : Around} {E : Value → Shared → Prop} {s : Shared}
theorem cat_tup {t b : Addr} {vs ws : List Value} {Q : Value → Shared → Prop} (ht : IsTup s.heap t vs.toArray) (hb : IsTup s.heap b ws.toArray) (hv : vs ≠ [])
    (h1 : ws = [] → Q (.ref t) s) (h2 : ws ≠ [] → Q (.ref s.heap.objs.size) { s with heap := s.heap.push { cls := .type "tuple", data := .seq (vs ++ ws).toArray } })
    (hsz : vs.length + ws.length ≤ sizeLine) : wpAny (model prog w) A (binaryOp .Add (.ref t) (.ref b)) Q E s := by
  obtain ⟨⟨cls, dd, data, sl⟩, ho, hc, n, hd⟩ := id ht
  obtain ⟨⟨cls2, dd2, data2, sl2⟩, ho2, hc2, n2, hd2⟩ := id hb
  simp only at hc hd hc2 hd2
  subst hc hd hc2 hd2
  have e : vs.toArray ++ ws.toArray = (vs ++ ws).toArray := by simp
  by_cases hw : ws = []
  · exact concat_meets ⟨_, ho, rfl⟩ ⟨_, ho2, rfl⟩ noFill_tuple_add seq_tuple_add PySem.F.slot_tuple_add PySem.F.entry_tuple_add (PySem.F.args_tuple_add_2 _ _)
      (tuple_addW1 t b vs.toArray ws.toArray n n2 dd dd2 sl sl2 (by simpa using hv) (by simp [hw])) ⟨ho, ho2, h1 hw⟩
  · refine concat_meets ⟨_, ho, rfl⟩ ⟨_, ho2, rfl⟩ noFill_tuple_add seq_tuple_add PySem.F.slot_tuple_add PySem.F.entry_tuple_add (PySem.F.args_tuple_add_2 _ _)
      (tuple_addW2 t b vs.toArray ws.toArray n n2 dd dd2 sl sl2 (by simpa using hv) (by simpa using hw) (by rw [List.size_toArray, List.size_toArray]; exact hsz)) ⟨ho, ho2, ?_⟩
    rw [e]
    exact h2 hw
def sIx (n d : Nat) : Option Int → Nat
  | none => d
  | some v => if v < 0 then (v + (n : Int)).toNat else min v.toNat n
theorem sIx_none (n d : Nat) : sIx n d none = d := rfl
theorem sIx_nat (n d k : Nat) : sIx n d (some (k : Int)) = min k n := by
  show (if (k : Int) < 0 then ((k : Int) + (n : Int)).toNat else min (k : Int).toNat n) = min k n
  rw [if_neg (by omega), Int.toNat_natCast]
end
end HT
namespace L2
open PySem PySem.Spec PyProof.Rows
abbrev TO := St → Hp → (Option Int → Hp → Prop) → Prop
def PO (X : Cx) (e : Option Expr) (t : TO) : Prop :=
  ∀ (pins : List (Addr × Obj)) (s : Shared) (σ : St) (H : Hp) (Q : Option Int → Hp → Prop), Inv X pins σ H s → t σ H Q →
    wpAny (model X.prog X.w) X.A (evalPart e X.env) (fun u s' => ∃ o H', Inv X pins σ H' s' ∧ IsPart u o ∧ Q o H') X.xe s
def tNoPart : TO := fun _ H Q => Q none H
def tPart (t : TE) : TO := fun σ H Q => t σ H fun x H1 => ∃ i, x = .int i ∧ Q (some i) H1
section
variable {X : Cx} {e : Expr} {te : TE} {lo hi : Option Expr} {tl th : TO} {pos p2 : Pos}
theorem po_none : PO X none tNoPart := by
  intro pins s σ H Q I h
  rw [evalPart_none]
  exact wpAny_pure ⟨none, H, I, .none, h⟩
theorem po_some (h : PE X e te) : PO X (some e) (tPart te) := by
  intro pins s σ H Q I hw
  rw [evalPart_some]
  refine thn (h pins s σ H _ I hw) fun u s1 ⟨x, H1, I1, r1, q1⟩ => ?_
  obtain ⟨i, rfl, q⟩ := q1
  obtain ⟨t, rfl⟩ := r1
  exact ⟨some i, H1, I1, .int i t, q⟩
def SlR (X : Cx) (r : V → Option Int → Option Int → Hp → VK → Prop) : Prop :=
  ∀ (pins : List (Addr × Obj)) (s : Shared) (σ : St) (H : Hp) (x : V) (v vl vu : Value) (lo hi : Option Int) (sl : Addr) (Q : VK), Inv X pins σ H s → RelV x v → s.heap.IsSliceOf sl vl vu .none → IsPart vl lo → IsPart vu hi → r x lo hi H Q →
    ∃ T id, typeLookup (.type T) "__getitem__" = pure (some (.builtin id)) ∧ s.TypeIs v T ∧ wpAny (model X.prog X.w) X.A (getItem v (.ref sl)) (EP X pins σ Q) X.xe s
def tSl (r : V → Option Int → Option Int → Hp → VK → Prop) (te : TE) (tl th : TO) : TE := fun σ H Q => te σ H fun x H1 => tl σ H1 fun l H2 => th σ H2 fun u H3 => r x l u H3 Q
theorem pe_slice {r : V → Option Int → Option Int → Hp → VK → Prop} (hr : SlR X r) (he : PE X e te) (hl : PO X lo tl) (hu : PO X hi th) : PE X (.Subscript e (.Slice lo hi none p2) pos) (tSl r te tl th) := by
  intro pins s σ H Q I h
  refine Subscript_ (thn (he pins s σ H _ I h) fun v s1 ⟨x, H1, I1, r1, q1⟩ => ?_)
  refine wpAny_Slice (thn (hl pins s1 σ H1 _ I1 q1) fun vl s2 ⟨l, H2, I2, pl, q2⟩ => thn (hu pins s2 σ H2 _ I2 q2) fun vu s3 ⟨u, H3, I3, pu, q3⟩ => ?_)
  rw [evalPart_none]
  refine wpAny_pure ?_
  have I4 : Inv X pins σ H3 { s3 with heap := s3.heap.push { cls := .type "slice", data := .fields #[vl, vu, .none] } } := I3.kept (t' := s3.toks) fun b ob q => Heap.get?_push_of_some _ q
  obtain ⟨T, id, hT, ht, hg⟩ := hr pins { s3 with heap := s3.heap.push { cls := .type "slice", data := .fields #[vl, vu, .none] } } σ H3 x v vl vu l u s3.heap.objs.size Q I4 r1 (Heap.IsSliceOf.new ..) pl pu q3
  show wpAny (model X.prog X.w) X.A (subscriptTail e (.Slice lo hi none p2) v (.ref s3.heap.objs.size)) (EP X pins σ Q) X.xe { s3 with heap := s3.heap.push { cls := .type "slice", data := .fields #[vl, vu, .none] } }
  exact tail_any (ops := [.ref s3.heap.objs.size, v]) ht hT hg (by with_unfolding_all rfl)
def cutV (xs : List V) (lo hi : Option Int) : List V := (xs.drop (HT.sIx xs.length 0 lo)).take (HT.sIx xs.length xs.length hi - HT.sIx xs.length 0 lo)
theorem cutV_length (xs : List V) (lo hi : Option Int) : (cutV xs lo hi).length ≤ xs.length := by
  unfold cutV
  rw [List.length_take, List.length_drop]
  omega
def rCatT (K : PySem.W.Frag) : R2 := fun x y H Q => ∃ a b xs ys, x = .ref a ∧ y = .ref b ∧ SqT K H a xs ∧ SqT K H b ys ∧ xs ≠ [] ∧ xs.length + ys.length ≤ sizeLine ∧
  (ys = [] → Q (.ref a) H) ∧ (ys ≠ [] → ∀ p, H p = none → Q (.ref p) (upd H p (.tup (xs ++ ys))))
theorem Vals.nil_iff {xs : List V} {us : List Value} (r : Vals xs us) : us = [] ↔ xs = [] := by
  cases r with
  | nil => simp
  | cons _ _ => simp
theorem op_catT : OpR X (binaryOp .Add) (rCatT X.K) := by
  intro pins s σ H x y v u Q I rx ry h
  obtain ⟨a, b, xs, ys, rfl, rfl, ha, hb, hx, hz, q1, q2⟩ := h
  cases rx
  cases ry
  obtain ⟨its, r1, p1, _⟩ := I.tuple ha
  obtain ⟨its2, r2, p2, _⟩ := I.tuple hb
  refine HT.cat_tup p1 p2 (fun z => hx (r1.nil_iff.mp z)) (fun z => ⟨.ref a, H, I, rfl, q1 (r2.nil_iff.mp z)⟩) (fun z => ?_) (by rw [← r1.length, ← r2.length]; exact hz)
  refine ⟨.ref s.heap.objs.size, _, I.laid (t' := s.toks) (o := .tup (xs ++ ys)) (fun b ob q => Heap.get?_push_of_some _ q) (Nat.le_refl _) ?_, rfl, q2 (fun w => z (r2.nil_iff.mpr w)) _ (I.hok.fresh (Nat.le_refl _))⟩
  exact ⟨by rw [List.length_append]; exact hz, _, r1.append r2, TupN.new _ _⟩
end
end L2
namespace L2
open PySem PySem.Spec PyProof.Rows
def ixN (n : Nat) (i : Int) : Option Nat := if 0 ≤ i then (if i < n then some i.toNat else none) else if -(n : Int) ≤ i then some (i + n).toNat else none
def atI {α : Type} (xs : List α) (i : Int) : Option α := (ixN xs.length i).bind fun j => xs[j]?
theorem ixN_seq {n : Nat} {i : Int} {j : Nat} (h : ixN n i = some j) : seqIndex? i n = some j ∧ j < n ∧ -(n : Int) ≤ i ∧ i < n := by
  unfold ixN at h
  by_cases h0 : 0 ≤ i
  · rw [if_pos h0] at h
    by_cases h1 : i < n
    · rw [if_pos h1] at h
      have e : i.toNat = j := Option.some.inj h
      exact ⟨by rw [seqIndex_of h0 h1, e], by omega, by omega, h1⟩
    · rw [if_neg h1] at h; cases h
  · rw [if_neg h0] at h
    by_cases h1 : -(n : Int) ≤ i
    · rw [if_pos h1] at h
      have e : (i + n).toNat = j := Option.some.inj h
      exact ⟨by rw [seqIndex_neg (by omega) h1, e], by omega, h1, by omega⟩
    · rw [if_neg h1] at h; cases h
theorem atI_get {α : Type} {xs : List α} {i : Int} {v : α} (h : atI xs i = some v) : ∃ j, seqIndex? i xs.length = some j ∧ xs[j]? = some v ∧ j < xs.length ∧ -(xs.length : Int) ≤ i ∧ i < xs.length := by
  unfold atI at h
  cases e : ixN xs.length i with
  | none => rw [e] at h; cases h
  | some j =>
    rw [e] at h
    obtain ⟨h1, h2, h3, h4⟩ := ixN_seq e
    exact ⟨j, h1, h, h2, h3, h4⟩
theorem atI_nat {α : Type} {xs : List α} {j : Nat} {v : α} (h : xs[j]? = some v) : atI xs (j : Int) = some v := by
  have hj : j < xs.length := (List.getElem?_eq_some_iff.mp h).1
  have e : ixN xs.length (j : Int) = some j := by
    unfold ixN
    rw [if_pos (by omega), if_pos (by omega)]; simp
  unfold atI; rw [e]; exact h
def PlainIx (b : Expr) : Prop := ∀ o i, subscripted b false o i = operate [o, i] (getItem o i)
def IxR (X : Cx) (r : R2) : Prop :=
  ∀ (value slice : Expr) (pins : List (Addr × Obj)) (s : Shared) (σ : St) (H : Hp) (x y : V) (v u : Value) (Q : VK), Inv X pins σ H s → RelV x v → RelV y u → r x y H Q →
    subscripted slice false v u = operate [v, u] (getItem v u) → wpAny (model X.prog X.w) X.A (subscriptTail value slice v u) (EP X pins σ Q) X.xe s
def MtR (X : Cx) (id : String) (r : V → List V → Hp → VK → Prop) : Prop :=
  ∀ (pins : List (Addr × Obj)) (s : Shared) (σ : St) (H : Hp) (x : V) (xs : List V) (v : Value) (us : List Value) (Q : VK), Inv X pins σ H s → RelV x v → Vals xs us → r x xs H Q →
    wpAny (model X.prog X.w) X.A (call (.builtin id) (v :: us)) (EP X pins σ Q) X.xe s
section
variable {X : Cx} {a b : Expr} {ta tb : TE} {pos : Pos}
theorem pe_ix {r : R2} (hr : IxR X r) (ha : PE X a ta) (hb : PE X b tb) (hs : PlainIx b) : PE X (.Subscript a b pos) (tOp r ta tb) := by
  intro pins s σ H Q I h
  exact Subscript_ (binT ha hb I h fun v u s2 x y H2 I2 rx ry q => hr a b pins s2 σ H2 x y v u Q I2 rx ry q (hs _ _))
def rIxL (K : PySem.W.Frag) : R2 := fun x y H Q => ∃ p xs i v, x = .ref p ∧ y = .int i ∧ SqL K H p xs ∧ atI xs i = some v ∧ Q v H
def rIxT (K : PySem.W.Frag) : R2 := fun x y H Q => ∃ p xs i v, x = .ref p ∧ y = .int i ∧ SqT K H p xs ∧ atI xs i = some v ∧ Q v H
theorem ix_list : IxR X (rIxL X.K) := by
  intro value slice pins s σ H x y v u Q I rx ry h hs
  obtain ⟨p, xs, i, z, rfl, rfl, hq, he, q⟩ := h
  cases rx
  obtain ⟨t, rfl⟩ := ry
  obtain ⟨its, r, pl, hz⟩ := I.list hq
  obtain ⟨j, h1, h2, h3, h4, h5⟩ := atI_get he
  obtain ⟨w, ew, rw'⟩ := r.get h2
  have hl := r.length
  have hn := line63
  have fin : EP X pins σ Q w s := ⟨z, H, I, rw', q⟩
  by_cases h0 : 0 ≤ i
  · have hj : i.toNat = j := by
      rw [seqIndex_of h0 h5] at h1
      exact Option.some.inj h1
    exact item_listR pl.isList h0 (by omega) (by rw [hj]; simpa using ew) fin hs
  · have hj : (i + (its.toArray.size : Int)).toNat = j := by
      rw [seqIndex_neg (by omega) h4] at h1
      rw [List.size_toArray, ← hl]
      exact Option.some.inj h1
    exact subscriptTail_builtinR (x := w) pl.isList.typeIs slot_list_getitem.lookup
      (wpAny_getItem_list_neg (Q := fun r s' => r = w ∧ EP X pins σ Q r s') pl.isList (by omega) (by rw [List.size_toArray] <;> omega) (by omega) (by rw [hj]; simpa using ew) ⟨rfl, fin⟩) hs
theorem ix_tup : IxR X (rIxT X.K) := by
  intro value slice pins s σ H x y v u Q I rx ry h hs
  obtain ⟨p, xs, i, z, rfl, rfl, hq, he, q⟩ := h
  cases rx
  obtain ⟨t, rfl⟩ := ry
  obtain ⟨its, r, pl, hz⟩ := I.tuple hq
  obtain ⟨j, h1, h2, h3, h4, h5⟩ := atI_get he
  obtain ⟨w, ew, rw'⟩ := r.get h2
  have hl := r.length
  have hn := line63
  have fin : EP X pins σ Q w s := ⟨z, H, I, rw', q⟩
  exact subscriptTail_builtinR (x := w) pl.typeIs slot_tuple_getitem.lookup
    (getItem_tuple (j := j) (Q := fun r s' => r = w ∧ EP X pins σ Q r s') pl (by omega) (by omega) (by rw [List.size_toArray, ← hl]; exact h1) (by simpa using ew) ⟨rfl, fin⟩) hs
theorem mapSeq_set (its : List Value) (n j : Nat) (u : Value) : Obj.mapSeq (·.setIfInBounds j u) { cls := .type "list", data := .seq its.toArray n } = { cls := .type "list", data := .seq (its.set j u).toArray n } := by
  simp [Obj.mapSeq]
theorem Inv.lst {pins : List (Addr × Obj)} {σ : St} {H : Hp} {s : Shared} {p : Addr} {xs : List V} (I : Inv X pins σ H s) (h : H p = some (.lst xs)) :
    ∃ (its : List Value) (n : Nat), Vals xs its ∧ s.heap.get? p = some { cls := .type "list", data := .seq its.toArray n } ∧ xs.length ≤ sizeLine := by
  obtain ⟨z, its, n, r, e⟩ := I.hok p _ h
  exact ⟨its, n, r, e, z⟩
theorem Inv.lstUpd {pins : List (Addr × Obj)} {σ : St} {H : Hp} {s : Shared} {p : Addr} {xs ys : List V} {its its' : List Value} {n n' : Nat} {f : Obj → Obj} (I : Inv X pins σ H s) (h : H p = some (.lst xs))
    (ho : s.heap.get? p = some { cls := .type "list", data := .seq its.toArray n }) (hf : f { cls := .type "list", data := .seq its.toArray n } = { cls := .type "list", data := .seq its'.toArray n' }) (r : Vals ys its') (hz : ys.length ≤ sizeLine) (t : Nat) :
    Inv X pins σ (upd H p (.lst ys)) { s with heap := s.heap.update p f, toks := t } := by
  have e : (s.heap.update p f).get? p = some { cls := .type "list", data := .seq its'.toArray n' } := by
    rw [Heap.get?_update_self f ho (by rw [hf] <;> rfl), hf]
  refine I.write (x := p) (e := p) (by rw [h]; trivial) (.inl rfl) (fun b u hb q => (Heap.get?_update_other _ _ (Ne.symm hb)).trans q) ⟨_, e⟩ ?_
  exact ⟨hz, its', n', r, e⟩
def rSetL : V → V → V → Hp → (Hp → Prop) → Prop := fun o i v H Q => ∃ p xs k j, o = .ref p ∧ i = .int k ∧ H p = some (.lst xs) ∧ ixN xs.length k = some j ∧ Q (upd H p (.lst (xs.set j v)))
theorem set_list : PSet X rSetL := by
  intro pins s σ H o i v ov iv u Q I ro ri rv h
  obtain ⟨p, xs, k, j, rfl, rfl, hp, hj, q⟩ := h
  cases ro
  obtain ⟨t, rfl⟩ := ri
  obtain ⟨its, n, r, ho, hz⟩ := I.lst hp
  obtain ⟨h1, h2, h3, h4⟩ := ixN_seq hj
  have hl := r.length
  have hn := line63
  have I' : Inv X pins σ (upd H p (.lst (xs.set j v))) { s with heap := s.heap.update p (Obj.mapSeq (·.setIfInBounds j u)) } :=
    I.lstUpd hp ho (mapSeq_set its n j u) (r.set rv j) (by rw [List.length_set]; exact hz) s.toks
  by_cases h0 : 0 ≤ k
  · have hk : k.toNat = j := by
      rw [seqIndex_of h0 h4] at h1
      exact Option.some.inj h1
    exact PySem.W.ki_setAt ho h0 (by omega) (by rw [List.size_toArray, ← hl]; exact h4) (by rw [hk]; exact ⟨_, I', q⟩)
  · have hk : (k + (its.toArray.size : Int)).toNat = j := by
      rw [seqIndex_neg (by omega) h3] at h1
      rw [List.size_toArray, ← hl]
      exact Option.some.inj h1
    exact PySem.W.ki_setBack ho (by omega) (by rw [List.size_toArray, ← hl]; exact h3) (by omega) (by rw [hk]; exact ⟨_, I', q⟩)
theorem slice_bounds (lo hi : Option Int) (n : Nat) : (sliceBounds lo hi none n).1 = ((HT.sIx n 0 lo : Nat) : Int) ∧ (sliceBounds lo hi none n).2.1 = ((HT.sIx n n hi : Nat) : Int) ∧ (sliceBounds lo hi none n).2.2 = 1 := by
  refine ⟨?_, ?_, rfl⟩
  · cases lo with
    | none => simp [sliceBounds, HT.sIx]
    | some i =>
      simp only [sliceBounds, HT.sIx, Option.getD_none, show (1 : Int) > 0 by decide, if_true]
      by_cases h : i < 0
      · simp only [h, if_true] <;> omega
      · simp only [h, if_false] <;> omega
  · cases hi with
    | none => simp [sliceBounds, HT.sIx]
    | some i =>
      simp only [sliceBounds, HT.sIx, Option.getD_none, show (1 : Int) > 0 by decide, if_true]
      by_cases h : i < 0
      · simp only [h, if_true] <;> omega
      · simp only [h, if_false] <;> omega
theorem slicePick_cut (its : List Value) (lo hi : Option Int) : slicePick its.toArray lo hi none = ((its.drop (HT.sIx its.length 0 lo)).take (HT.sIx its.length its.length hi - HT.sIx its.length 0 lo)).toArray := by
  obtain ⟨h1, h2, h3⟩ := slice_bounds lo hi its.toArray.size
  unfold slicePick
  rw [h1, h2, h3]
  simp only [sliceRange_one, pick_run, List.size_toArray] <;> rfl
def rSlL (K : PySem.W.Frag) : V → Option Int → Option Int → Hp → VK → Prop := fun x lo hi H Q => ∃ a xs, x = .ref a ∧ SqL K H a xs ∧ ∀ p, H p = none → Q (.ref p) (upd H p (.lst (cutV xs lo hi)))
theorem sl_list : SlR X (rSlL X.K) := by
  intro pins s σ H x v vl vu lo hi sl Q I rx hs pl pu h
  obtain ⟨a, xs, rfl, hx, q⟩ := h
  cases rx
  obtain ⟨its, r, ht, hz⟩ := I.list hx
  have hlen := r.length
  refine ⟨"list", _, slot_list_getitem.lookup, ht.isList.typeIs, ?_⟩
  refine wpAny_getItem_list_slice ht.isList hs pl pu .none (by simp) ?_ (by rw [List.size_toArray] <;> omega)
  rw [slicePick_cut, ← hlen]
  refine ⟨.ref s.heap.objs.size, _, I.laid (t' := s.toks) (o := .lst (cutV xs lo hi)) (fun b ob q => Heap.get?_push_of_some _ q) (Nat.le_refl _) ?_, rfl, q _ (I.hok.fresh (Nat.le_refl _))⟩
  exact ⟨Nat.le_trans (cutV_length xs lo hi) hz, _, 0, (r.drop (HT.sIx xs.length 0 lo)).take (HT.sIx xs.length xs.length hi - HT.sIx xs.length 0 lo), Heap.get?_push_size _ rfl⟩
theorem call_len_seq : CallR X (.builtin "len") (fun xs H Q => ∃ p ys, xs = [.ref p] ∧ (SqL X.K H p ys ∨ SqT X.K H p ys) ∧ Q (.int ys.length) H) := by
  intro pins s σ H xs us Q I r h
  obtain ⟨p, ys, rfl, hq, q⟩ := h
  obtain ⟨u, rfl, rx⟩ := vals1 r
  cases rx
  have hn := line63
  rcases hq with hq | hq
  · obtain ⟨its, r', pl, hz⟩ := I.list hq
    have hlen := r'.length
    exact Calls.call_len_list pl.isList (by simp only [List.size_toArray] <;> omega) ⟨.int ys.length, H, I.tok _, ⟨s.toks + 1, by rw [List.size_toArray, hlen]⟩, q⟩
  · obtain ⟨its, r', pl, hz⟩ := I.tuple hq
    have hlen := r'.length
    exact len_tuple pl (by simp only [List.size_toArray] <;> omega) ⟨.int ys.length, H, I.tok _, ⟨s.toks + 1, by rw [List.size_toArray, hlen]⟩, q⟩
theorem call_list_of : CallR X (.type "list") (fun xs H Q => ∃ p ys, xs = [.ref p] ∧ (SqL X.K H p ys ∨ SqT X.K H p ys) ∧ ∀ l, H l = none → Q (.ref l) (upd H l (.lst ys))) := by
  intro pins s σ H xs us Q I r h
  obtain ⟨p, ys, rfl, hq, q⟩ := h
  obtain ⟨u, rfl, rx⟩ := vals1 r
  cases rx
  have fin : ∀ (its : List Value), Vals ys its → ys.length ≤ sizeLine → ∀ (h' : Heap) (c' : Nat), (∀ b o', s.heap.get? b = some o' → h'.get? b = some o') →
      h'.get? s.heap.objs.size = some { cls := .type "list", dict := none, data := .seq its.toArray c', slots := #[] } → EP X pins σ Q (.ref s.heap.objs.size) { s with heap := h' } := fun its r' hz h' c' kp e =>
    ⟨.ref s.heap.objs.size, _, I.laid (t' := s.toks) kp (Nat.le_refl _) (show ObjOk X.prog X.w _ h' _ (.lst ys) from ⟨hz, its, c', r', e⟩), rfl, q _ (I.hok.fresh (Nat.le_refl _))⟩
  rcases hq with hq | hq
  · obtain ⟨its, r', pl, hz⟩ := I.list hq
    have hlen := r'.length
    obtain ⟨o, ho, hc, n, hd⟩ := pl.isList
    exact call_list_seq p (.inl rfl) ho hc hd (fun h' c' kp e => fin its r' hz h' c' kp e) (by simp only [List.size_toArray] <;> omega)
  · obtain ⟨its, r', pl, hz⟩ := I.tuple hq
    have hlen := r'.length
    obtain ⟨o, ho, hc, n, hd⟩ := pl
    exact call_list_seq p (.inr rfl) ho hc hd (fun h' c' kp e => fin its r' hz h' c' kp e) (by simp only [List.size_toArray] <;> omega)
theorem call_tuple_of : CallR X (.type "tuple") (fun xs H Q => ∃ p ys, xs = [.ref p] ∧ ((SqL X.K H p ys ∧ ∀ l, H l = none → Q (.ref l) (upd H l (.tup ys))) ∨ (SqT X.K H p ys ∧ Q (.ref p) H))) := by
  intro pins s σ H xs us Q I r h
  obtain ⟨p, ys, rfl, h⟩ := h
  obtain ⟨u, rfl, rx⟩ := vals1 r
  cases rx
  rcases h with ⟨hq, q⟩ | ⟨hq, q⟩
  · obtain ⟨its, r', pl, hz⟩ := I.list hq
    have hlen := r'.length
    refine call_tuple_list pl.isList (fun h' kp => ?_) (by simp only [List.size_toArray] <;> omega)
    have I1 : Inv X pins σ H { s with heap := h' } := I.kept (t' := s.toks) kp
    have I2 : Inv X pins σ (upd H h'.objs.size (.tup ys)) { s with heap := h'.push { cls := .type "tuple", data := .seq its.toArray } } :=
      I1.laid (t' := s.toks) (fun b o e => Heap.get?_push_of_some _ e) (Nat.le_refl _) (show ObjOk X.prog X.w _ _ _ (.tup ys) from ⟨hz, its, r', TupN.new _ _⟩)
    exact ⟨.ref h'.objs.size, _, I2, rfl, q _ (I1.hok.fresh (Nat.le_refl _))⟩
  · obtain ⟨its, r', pl, hz⟩ := I.tuple hq
    exact call_tuple_same pl ⟨.ref p, H, I, rfl, q⟩
def tyV (K : PySem.W.Frag) (T : String) (x : V) (H : Hp) : Prop := match x with
  | .str _ => T = "str"
  | .int _ => T = "int"
  | .ref p => (T = "list" ∧ ∃ xs, SqL K H p xs) ∨ (T = "tuple" ∧ ∃ xs, H p = some (.tup xs)) ∨ (T = "tuple" ∧ ∃ o, K.lookup p = some o ∧ o.cls = .type "tuple" ∧ o.dict = none) ∨
      (T = "dict" ∧ ((∃ kvs, H p = some (.dK kvs)) ∨ ∃ kvs, H p = some (.dT kvs))) ∨ (T = "set" ∧ ∃ S n, H p = some (.set S n))
  | _ => False
theorem tyV_is {pins : List (Addr × Obj)} {σ : St} {H : Hp} {s : Shared} {T : String} {x : V} {v : Value} (I : Inv X pins σ H s) (r : RelV x v) (ty : tyV X.K T x H) :
    s.TypeIs v T ∧ ∀ a, v = .ref a → ∃ ob, s.heap.get? a = some ob ∧ ob.dict = none := by
  cases x with
  | str z =>
    obtain ⟨t, rfl⟩ := r
    cases (show T = "str" from ty)
    exact ⟨typeIs_str s z t, fun _ e => nomatch e⟩
  | int i =>
    obtain ⟨t, rfl⟩ := r
    cases (show T = "int" from ty)
    exact ⟨typeIs_int s i t, fun _ e => nomatch e⟩
  | ref p =>
    cases r
    rcases ty with ⟨rfl, xs, hq⟩ | ⟨rfl, xs, hx⟩ | ⟨rfl, o, hk, hc, hd⟩ | ⟨rfl, hk⟩ | ⟨rfl, S, n, hk⟩
    · obtain ⟨its, _, pl, _⟩ := I.list hq
      refine ⟨pl.isList.typeIs, fun a e => ?_⟩
      cases e
      obtain ⟨o, n, e, c, hd, _⟩ := pl
      exact ⟨o, e, hd⟩
    · obtain ⟨_, _, _, o, e, hd, hc, _⟩ := (show ObjOk X.prog X.w H s.heap p (.tup xs) from I.hok p _ hx)
      refine ⟨⟨o, e, hc⟩, fun a e2 => ?_⟩
      cases e2
      exact ⟨o, e, hd⟩
    · refine ⟨⟨o, I.kIn p o hk, hc⟩, fun a e => ?_⟩
      cases e
      exact ⟨o, I.kIn _ o hk, hd⟩
    · have z : ∃ o, s.heap.get? p = some o ∧ o.ExactDict := by
        rcases hk with ⟨kvs, hk⟩ | ⟨kvs, hk⟩
        · obtain ⟨_, _, _, _, o, _, _, e, ex, _⟩ := I.hok p _ hk
          exact ⟨o, e, ex⟩
        · obtain ⟨_, _, _, _, o, _, _, e, ex, _⟩ := I.hok p _ hk
          exact ⟨o, e, ex⟩
      obtain ⟨o, e, ex⟩ := z
      refine ⟨⟨o, e, ex.1⟩, fun a e2 => ?_⟩
      cases e2
      exact ⟨o, e, ex.2.1⟩
    · obtain ⟨o, _, _, _, e, ex, _⟩ := I.hok p _ hk
      refine ⟨⟨o, e, ex.1⟩, fun a e2 => ?_⟩
      cases e2
      exact ⟨o, e, ex.2.1⟩
  | _ => exact False.elim ty
def tBM (K : PySem.W.Frag) (T : String) (r : V → List V → Hp → VK → Prop) (to : TE) (t : TA) : TE := fun σ H Q => to σ H fun x H1 => tyV K T x H1 ∧ t σ H1 fun xs H2 => r x xs H2 Q
variable {o e : Expr} {es : List Expr} {to : TE} {t : TA} {name : Str} {apos cpos : Pos} {T id : String} {r : V → List V → Hp → VK → Prop}
theorem pe_bm (pa : PlainAttrs T) (slot : Slot T name id) (hty : typeOf (.builtin id) = pure (.type "method_descriptor")) (hm : MtR X id r) (ho : PE X o to) (ha : PA X (e :: es) t)
    (hbase : attributeBase o name X.env (eval o X.env) = eval o X.env := by rfl)
    (hfew : ((backTo cpos (starEach (e :: es) X.env)).all (fun x => !x.1) && (backToKw cpos (keywordEach [] X.env)).all (fun x => x.1.isSome)
      && decide ((e :: es).length + ([] : List Keyword).length + (if ([] : List Keyword).isEmpty then 0 else 1) < 30)) = true := by rfl)
    (hline : (apos.endLine == cpos.line) = true := by rfl) (hs : starEach (e :: es) X.env = (false, eval e X.env) :: starEach es X.env := by rfl) (hplain : (backTo cpos (starEach es X.env)).any (·.1) = false := by rfl) :
    PE X (.Call (.Attribute o name apos) (e :: es) [] cpos) (tBM X.K T r to t) := by
  intro pins s σ H Q I h
  refine wpAny_Call_method_late hbase hfew hline rfl (thn (ho pins s σ H _ I h) fun v s1 ⟨x, H1, I1, r1, ty, q1⟩ => ?_)
  obtain ⟨h1, h2⟩ := tyV_is I1 r1 ty
  refine ⟨T, id, pa, slot, hty, h1, h2, ?_⟩
  have hA := ha cpos pins s1 σ H1 _ I1 q1
  rw [hs] at hA ⊢
  refine Calls.callWith_builtin (by show (false || (backTo cpos (starEach es X.env)).any (·.1)) = false; rw [hplain] <;> rfl) (Calls.evalArgs_plain ?_)
  exact thn hA fun us s2 ⟨vs, H2, I2, r2, q2⟩ => hm pins s2 σ H2 x vs v us Q I2 r1 r2 q2
end
end L2
namespace L2
open PySem PySem.Spec PyProof.Rows
def MtM (X : Cx) (id : String) (r : V → List V → Hp → VK → Prop) : Prop :=
  ∀ (pins : List (Addr × Obj)) (s : Shared) (σ : St) (H : Hp) (x : V) (xs : List V) (v : Value) (us : List Value) (Q : VK), Inv X pins σ H s → RelV x v → Vals xs us → r x xs H Q →
    wpAny (model X.prog X.w) X.A (call (.builtin id) (v :: us)) (EP X pins σ Q) X.xe s
theorem Vals.one : ∀ {x : V} {us : List Value}, Vals [x] us → ∃ u, us = [u] ∧ RelV x u
  | _, _, .cons r .nil => ⟨_, rfl, r⟩
theorem Vals.two : ∀ {x y : V} {us : List Value}, Vals [x, y] us → ∃ u v, us = [u, v] ∧ RelV x u ∧ RelV y v
  | _, _, _, .cons r (.cons q .nil) => ⟨_, _, rfl, r, q⟩
theorem Vals.zero : ∀ {us : List Value}, Vals [] us → us = []
  | _, .nil => rfl
theorem Vals.eraseIdx : ∀ {xs : List V} {us : List Value} (i : Nat), Vals xs us → Vals (xs.eraseIdx i) (us.eraseIdx i)
  | _, _, _, .nil => .nil
  | _, _, 0, .cons _ t => t
  | _, _, i + 1, .cons r t => .cons r (Vals.eraseIdx i t)
theorem Vals.rep {xs : List V} {us : List Value} (h : Vals xs us) : ∀ k : Nat, Vals (List.replicate k xs).flatten (List.replicate k us).flatten
  | 0 => .nil
  | k + 1 => by
    rw [List.replicate_succ, List.replicate_succ, List.flatten_cons, List.flatten_cons]
    exact Vals.append h (Vals.rep h k)
theorem len_erase {α : Type} : ∀ (l : List α) (i : Nat), (l.eraseIdx i).length ≤ l.length
  | [], _ => Nat.le_refl _
  | _ :: _, 0 => Nat.le_succ _
  | _ :: r, i + 1 => Nat.succ_le_succ (len_erase r i)
theorem foldl_rep (its : List Value) : ∀ (k : Nat) (acc : List Value),
    List.foldl (fun x1 x2 => x1 ++ x2) acc.toArray (List.replicate k its.toArray) = (acc ++ (List.replicate k its).flatten).toArray
  | 0, acc => by simp
  | k + 1, acc => by
    have e : acc.toArray ++ its.toArray = (acc ++ its).toArray := by simp
    have e2 : (acc ++ its) ++ (List.replicate k its).flatten = acc ++ (List.replicate (k + 1) its).flatten := by
      rw [List.replicate_succ, List.flatten_cons, List.append_assoc]
    rw [← e2, ← foldl_rep its k (acc ++ its), ← e, List.replicate_succ, List.foldl_cons]
section
variable {X : Cx} {pins : List (Addr × Obj)} {σ : St} {H : Hp} {s : Shared} {l b : Addr} {xs ys zs : List V}
theorem Inv.lset {its its' : List Value} {n : Nat} {f : Array Value → Array Value} {t' : Nat} (I : Inv X pins σ H s) (hH : H l = some (.lst xs))
    (e : s.heap.get? l = some { cls := .type "list", data := .seq its.toArray n }) (hf : f its.toArray = its'.toArray) (hv : Vals ys its') (hz : ys.length ≤ sizeLine) :
    Inv X pins σ (upd H l (.lst ys)) { s with heap := s.heap.update l (Obj.mapSeq f), toks := t' } := by
  have q := PySem.IsL.update e f
  rw [hf] at q
  refine I.write (x := l) (e := l) (by rw [hH]; exact trivial) (.inl rfl) (fun b' u hb hu => (Heap.get?_update_other s.heap (Obj.mapSeq f) (Ne.symm hb)).trans hu) ⟨_, q⟩ ?_
  exact ⟨hz, its', _, hv, q⟩
theorem Inv.lnew {its : List Value} {t' : Nat} (I : Inv X pins σ H s) (hv : Vals ys its) (hz : ys.length ≤ sizeLine) :
    Inv X pins σ (upd H s.heap.objs.size (.lst ys)) { s with heap := s.heap.push { cls := .type "list", data := .seq its.toArray }, toks := t' } :=
  I.laid (fun _ _ q => Heap.get?_push_of_some _ q) (Nat.le_refl _) ⟨hz, its, 0, hv, Heap.get?_push_size _ rfl⟩
theorem Inv.fresh (I : Inv X pins σ H s) : H s.heap.objs.size = none := I.hok.fresh (Nat.le_refl _)
theorem Inv.lstM (I : Inv X pins σ H s) (hH : H l = some (.lst xs)) : xs.length ≤ sizeLine ∧ ∃ (its : List Value) (n : Nat), Vals xs its ∧ xs.length = its.length ∧ s.heap.get? l = some { cls := .type "list", data := .seq its.toArray n } := by
  obtain ⟨z, its, n, r, e⟩ := I.hok l _ hH
  exact ⟨z, its, n, r, r.length, e⟩
theorem notLongL {n : Nat} (h : n ≤ sizeLine) : Builtin.List.listTooLong n = false := by
  unfold Builtin.List.listTooLong
  exact decide_eq_false (by omega)
end
section
variable {X : Cx}
def rAppend : V → List V → Hp → VK → Prop := fun x vs H Q => ∃ l xs y, x = .ref l ∧ vs = [y] ∧ H l = some (.lst xs) ∧ xs.length < sizeLine ∧ Q .non (upd H l (.lst (xs ++ [y])))
theorem mt_append : MtM X "list.append" rAppend := by
  intro pins s σ H x vs v us Q I rx rv h
  obtain ⟨l, xs, y, rfl, rfl, hH, hz, q⟩ := h
  cases rx
  obtain ⟨u, rfl, ru⟩ := rv.one
  obtain ⟨z, its, n, r, hl, e⟩ := I.lstM hH
  refine call_meets F.slot_list_append ⟨_, e, rfl⟩ F.entry_list_append (F.args_list_append_2 _ _) (PySem.list_append l its.toArray n u (by rw [List.size_toArray]; omega)) ⟨e, ?_⟩
  refine ⟨.non, _, I.lset (its' := its ++ [u]) hH e (by simp) (r.append (.cons ru .nil)) ?_, rfl, q⟩
  rw [List.length_append, List.length_singleton]
  omega
def rPopAt : V → List V → Hp → VK → Prop := fun x vs H Q => ∃ l xs i k y, x = .ref l ∧ vs = [.int i] ∧ H l = some (.lst xs) ∧ -(2 ^ 63) ≤ i ∧ i < 2 ^ 63 ∧ seqIndex? i xs.length = some k ∧ xs[k]? = some y ∧ Q y (upd H l (.lst (xs.eraseIdx k)))
theorem mt_popAt : MtM X "list.pop" rPopAt := by
  intro pins s σ H x vs v us Q I rx rv h
  obtain ⟨l, xs, i, k, y, rfl, rfl, hH, h1, h2, hk, hy, q⟩ := h
  cases rx
  obtain ⟨u, rfl, ru⟩ := rv.one
  obtain ⟨t, rfl⟩ := ru
  obtain ⟨z, its, n, r, hl, e⟩ := I.lstM hH
  obtain ⟨w, hw, rw'⟩ := r.get hy
  refine call_meets F.slot_list_pop ⟨_, e, rfl⟩ F.entry_list_pop (F.args_list_pop_2 _ _)
    (MeetsSeq.list_pop_at l its.toArray n i t k w (fitsIndex_both h1 h2) (by rw [List.size_toArray, ← hl]; exact hk) (by rw [← Array.getElem?_toList]; exact hw) (by rw [List.size_toArray]; omega)) ⟨e, ?_⟩
  refine ⟨y, _, I.lset (its' := its.eraseIdx k) hH e ?_ (r.eraseIdx k) ?_, rw', q⟩
  · show its.toArray.eraseIdxIfInBounds k = (its.eraseIdx k).toArray
    rw [List.eraseIdxIfInBounds_toArray]
  · have := len_erase xs k
    omega
def rRep : R2 := fun x y H Q => ∃ l k xs, x = .ref l ∧ y = .int k ∧ H l = some (.lst xs) ∧ -(2 ^ 63) ≤ k ∧ k < 2 ^ 63 ∧ xs.length * k.toNat ≤ sizeLine ∧
  ∀ p, H p = none → Q (.ref p) (upd H p (.lst (List.replicate k.toNat xs).flatten))
theorem len_rep {α : Type} (xs : List α) (k : Nat) : (List.replicate k xs).flatten.length = k * xs.length := by
  induction k with
  | zero => simp
  | succ k ih => rw [List.replicate_succ, List.flatten_cons, List.length_append, ih, Nat.succ_mul, Nat.add_comm]
theorem op_rep : OpR X (binaryOp .Mult) rRep := by
  intro pins s σ H x y v u Q I rx ry h
  obtain ⟨l, k, xs, rfl, rfl, hH, h1, h2, hz, q⟩ := h
  cases rx
  obtain ⟨t, rfl⟩ := ry
  obtain ⟨z, its, n, r, hl, e⟩ := I.lstM hH
  have hlen : its.toArray.size * k.toNat ≤ sizeLine := by rw [List.size_toArray, ← hl]; exact hz
  have hcap : ¬ its.toArray.size * k.toNat > (2 ^ 63 - 1) / 8 := by
    have : (sizeLine : Nat) ≤ (2 ^ 63 - 1) / 8 := by decide
    omega
  have hfit : ¬ (!Builtin.List.listFitsIndex k) = true := by
    rw [fitsIndex_both h1 h2]
    exact Bool.false_ne_true
  have hlong : ¬ Builtin.List.listTooLong (its.toArray.size * k.toNat) = true := by
    rw [notLongL hlen]
    exact Bool.false_ne_true
  have hnew : List.foldl (fun x1 x2 => x1 ++ x2) #[] (List.replicate (if its.toArray.isEmpty = true then 0 else k.toNat) its.toArray) = (List.replicate k.toNat its).flatten.toArray := by
    have f0 : ∀ m : Nat, List.foldl (fun x1 x2 => x1 ++ x2) #[] (List.replicate m its.toArray) = (List.replicate m its).flatten.toArray := fun m => by
      have := foldl_rep its m []
      rw [List.nil_append] at this
      exact this
    rw [f0]
    cases its with
    | nil => simp
    | cons a r' => rw [if_neg (by simp)]
  refine wpAny_binaryOp_repeat_ref (T := "list") (U := "int") (by decide) ⟨_, e, rfl⟩ (fun s' => typeIs_int s' k t) noFill_list_mul F.fills_int_mul F.slot_int_rmul repeat_list F.slot_int_index.lookup
    (call_meets F.slot_int_rmul (typeIs_int s k t) F.entry_int_rmul (F.args_int_rmul_2 _ _) (int___rmul___int_list k t l its.toArray n)
      ⟨e, rfl, ⟨_, e, rfl⟩, call_meets F.slot_list_mul ⟨_, e, rfl⟩ F.entry_list_mul (F.args_list_mul_2 _ _) (AutoListH.list___mul___list_int_3 l its.toArray n k t hfit hcap hlong) ⟨e, ?_⟩⟩)
  rw [hnew]
  exact ⟨.ref _, _, I.lnew (t' := s.toks) (r.rep k.toNat) (by rw [len_rep, Nat.mul_comm]; exact hz), rfl, q _ I.fresh⟩
end
section
variable {prog : Program} {w : World} {A : Around} {E : Value → Shared → Prop} {s : Shared}
end
section
variable {X : Cx}
end
end L2
namespace L2
open PySem PySem.Spec PyProof.Rows
theorem Vals.ints : ∀ {ns : List Int} {us : List Value}, Vals (ns.map V.int) us → IntsAre us ns
  | [], us, h => by
    rw [List.map_nil] at h
    cases h
    exact IntsAre.nil
  | n :: ns, us, h => by
    rw [List.map_cons] at h
    cases h with
    | cons r t =>
      obtain ⟨k, rfl⟩ := r
      exact IntsAre.cons n k (Vals.ints t)
theorem vals_of_ints : ∀ {us : List Value} {ns : List Int}, IntsAre us ns → Vals (ns.map V.int) us
  | _, _, .nil => by rw [List.map_nil]; exact Paired.nil
  | _, _, .cons n t h => by rw [List.map_cons]; exact Paired.cons (show RelV (V.int n) (Value.int n t) from ⟨t, rfl⟩) (vals_of_ints h)
theorem Vals.strs : ∀ {xs : List Str} {us : List Value}, Vals (xs.map V.str) us → StrsAre us xs
  | [], us, h => by
    rw [List.map_nil] at h
    cases h
    exact StrsAre.nil
  | x :: xs, us, h => by
    rw [List.map_cons] at h
    cases h with
    | cons r t =>
      obtain ⟨k, rfl⟩ := r
      exact StrsAre.cons x k (Vals.strs t)
theorem Vals.ref1 {a : Addr} {us : List Value} (r : Vals [V.ref a] us) : us = [Value.ref a] := by
  cases r with
  | cons r t =>
    cases t
    cases r
    rfl
section
variable {prog : Program} {w : World} {A : Around} {E : Value → Shared → Prop} {s : Shared} {l : Addr} {its : List Value} {ns : List Int} {Q : Value → Shared → Prop}
end
section
variable {X : Cx}
end
section
variable {X : Cx}
end
section
variable {X : Cx}
end
section
variable {X : Cx}
end
mutual
inductive Dp (K : PySem.W.Frag) (H : Hp) : V → PyData → Prop
  | non : Dp K H .non .none
  | bl (b : Bool) : Dp K H (.bl b) (.bool b)
  | int (i : Int) : Dp K H (.int i) (.int i)
  | str (x : Str) : Dp K H (.str x) (.str x)
  | lst {a : Addr} {xs : List V} {ds : List PyData} : SqL K H a xs → DpAll K H xs ds → Dp K H (.ref a) (.list ds)
  | tup {a : Addr} {xs : List V} {ds : List PyData} : SqT K H a xs → DpAll K H xs ds → Dp K H (.ref a) (.tuple ds)
inductive DpAll (K : PySem.W.Frag) (H : Hp) : List V → List PyData → Prop
  | nil : DpAll K H [] []
  | cons {v : V} {vs : List V} {d : PyData} {ds : List PyData} : Dp K H v d → DpAll K H vs ds → DpAll K H (v :: vs) (d :: ds)
end
section
variable {X : Cx} {pins : List (Addr × Obj)} {σ : St} {H : Hp} {s : Shared}
mutual
theorem Dp.reads (I : Inv X pins σ H s) : ∀ (d : PyData) (v : V) (u : Value), Dp X.K H v d → RelV v u → ∃ as, Reads s.heap u d as
  | .none, _, _, h, r => by
    cases h
    cases r
    exact ⟨_, Reads.none⟩
  | .bool b, _, _, h, r => by
    cases h
    cases r
    exact ⟨_, Reads.bool b⟩
  | .int i, _, _, h, r => by
    cases h
    obtain ⟨t, rfl⟩ := r
    exact ⟨_, Reads.int i t⟩
  | .str x, _, _, h, r => by
    cases h
    obtain ⟨t, rfl⟩ := r
    exact ⟨_, Reads.str x t⟩
  | .list ds, _, _, h, r => by
    cases h with
    | lst hs ha =>
      cases r
      obtain ⟨its, rv, ⟨o, n, ho, hc, _, hd⟩, _⟩ := I.list hs
      obtain ⟨as, hr⟩ := Dp.readsAll I ds _ its ha rv
      exact ⟨_, Reads.list ho hc hd hr⟩
  | .tuple ds, _, _, h, r => by
    cases h with
    | tup hs ha =>
      cases r
      obtain ⟨its, rv, ⟨o, ho, hc, n, hd⟩, _⟩ := I.tuple hs
      obtain ⟨as, hr⟩ := Dp.readsAll I ds _ its ha rv
      exact ⟨_, Reads.tuple ho hc hd hr⟩
  | .dict _, _, _, h, _ => by cases h
theorem Dp.readsAll (I : Inv X pins σ H s) : ∀ (ds : List PyData) (vs : List V) (us : List Value), DpAll X.K H vs ds → Vals vs us → ∃ as, ReadsAll s.heap us ds as
  | [], _, _, h, r => by
    cases h
    cases r
    exact ⟨_, ReadsAll.nil⟩
  | d :: ds, _, _, h, r => by
    cases h with
    | cons h1 h2 =>
      cases r with
      | cons r1 r2 =>
        obtain ⟨as, q1⟩ := Dp.reads I d _ _ h1 r1
        obtain ⟨bs, q2⟩ := Dp.readsAll I ds _ _ h2 r2
        exact ⟨_, ReadsAll.cons q1 q2⟩
end
end
section
variable {X : Cx}
def rNeD (K : PySem.W.Frag) : R2 := fun x y H Q => ∃ d e, Dp K H x d ∧ Dp K H y e ∧ SeqAt.shaped d = true ∧ SeqAt.shaped e = true ∧ Q (.bl (!PyData.eqv d e)) H
theorem op_neD (hu : X.A.units + 64 < cLine) : OpR X (compareOp .NotEq) (rNeD X.K) := by
  intro pins s σ H x y v u Q I rx ry h
  obtain ⟨d, e, hd, he, sd, se, q⟩ := h
  obtain ⟨as, r1⟩ := Dp.reads I d x v hd rx
  obtain ⟨bs, r2⟩ := Dp.reads I e y u he ry
  exact SeqAt.compareNe_shaped r1 r2 sd se hu ⟨.bl _, H, I, rfl, q⟩
end
end L2
namespace L2
open PySem PySem.Spec PyProof.Rows
abbrev CellAt (h : Heap) (c : Addr) (v : Option Value) : Prop := h.IsCell c v
def relS (scope sc : Scope) : Scope :=
  { scope with names := scope.names.map fun (n, k) => if (k == .free && sc.kind == .function && sc.names.lookup n == some .cell) then (n, .cell) else (n, k) }
def cloFrom (cells : List (Str × Addr)) : List (Str × NameKind) → List (Str × Addr) → List (Str × Addr)
  | [], acc => acc
  | (n, k) :: r, acc => if k == .free then cloFrom cells r ((n, (cells.lookup n).getD 0) :: acc) else cloFrom cells r acc
theorem closure_loop (env : Env) (f : Str × NameKind → List (Str × Addr) → Sem (ForInStep (List (Str × Addr))))
    (hf : ∀ n k c, f (n, k) c = if k == .free then (do let a ← cellOf env n; pure (.yield ((n, a) :: c))) else pure (.yield c)) :
    ∀ (names : List (Str × NameKind)) (acc : List (Str × Addr)), (∀ y ∈ names, y.2 = .free → ∃ c, env.cells.lookup y.1 = some c) → forIn names acc f = pure (cloFrom env.cells names acc)
  | [], acc, _ => by rw [List.forIn_nil]; rfl
  | (n, k) :: r, acc, h => by
    rw [List.forIn_cons, hf]
    have ih := fun acc => closure_loop env f hf r acc fun y hy => h y (List.mem_cons_of_mem _ hy)
    unfold cloFrom
    by_cases hk : (k == NameKind.free) = true
    · rw [if_pos hk, if_pos hk]
      obtain ⟨c, hc⟩ := h (n, k) List.mem_cons_self (by simpa using hk)
      have e : cellOf env n = pure c := by unfold cellOf; rw [hc]
      rw [e]
      have e2 : (env.cells.lookup n).getD 0 = c := by rw [hc]; rfl
      rw [e2]
      exact ih _
    · rw [if_neg hk, if_neg hk]
      exact ih _
theorem closure_ok {scope : Scope} {env : Env} (h : ∀ y ∈ scope.names, y.2 = .free → ∃ c, env.cells.lookup y.1 = some c) : closureFor scope env = pure (cloFrom env.cells scope.names []) := by
  simp only [closureFor]
  rw [closure_loop env _ (fun n k c => rfl) scope.names [] h]
  rfl
theorem mem_lookup {α : Type} : ∀ {l : List (Str × α)} {n : Str} {c : α}, (n, c) ∈ l → ∃ c', l.lookup n = some c'
  | (k, v) :: r, n, c, h => by
    rw [List.lookup_cons]
    cases hb : n == k with
    | true => exact ⟨_, rfl⟩
    | false =>
      rcases List.mem_cons.mp h with e | h
      · cases e; simp at hb
      · exact mem_lookup h
theorem cloFrom_mem {cells : List (Str × Addr)} : ∀ {names : List (Str × NameKind)} {acc : List (Str × Addr)} {n : Str} {c : Addr}, (n, c) ∈ cloFrom cells names acc → (n, c) ∈ acc ∨ ((n, .free) ∈ names ∧ c = (cells.lookup n).getD 0)
  | [], _, _, _, h => .inl h
  | (m, k) :: r, acc, n, c, h => by
    unfold cloFrom at h
    split at h
    · rename_i hk
      have hk : k = .free := by simpa using hk
      rcases cloFrom_mem h with h | ⟨h1, h2⟩
      · rcases List.mem_cons.mp h with e | h
        · cases e; exact .inr ⟨hk ▸ List.mem_cons_self, rfl⟩
        · exact .inl h
      · exact .inr ⟨List.mem_cons_of_mem _ h1, h2⟩
    · rcases cloFrom_mem h with h | ⟨h1, h2⟩
      · exact .inl h
      · exact .inr ⟨List.mem_cons_of_mem _ h1, h2⟩
theorem cloFrom_acc {cells : List (Str × Addr)} : ∀ {names : List (Str × NameKind)} {acc : List (Str × Addr)} {p : Str × Addr}, p ∈ acc → p ∈ cloFrom cells names acc
  | [], _, _, h => h
  | (m, k) :: r, acc, p, h => by
    unfold cloFrom
    split
    · exact cloFrom_acc (List.mem_cons_of_mem _ h)
    · exact cloFrom_acc h
theorem cloFrom_has {cells : List (Str × Addr)} : ∀ {names : List (Str × NameKind)} {acc : List (Str × Addr)} {n : Str}, (n, .free) ∈ names → (n, (cells.lookup n).getD 0) ∈ cloFrom cells names acc
  | (m, k) :: r, acc, n, h => by
    unfold cloFrom
    rcases List.mem_cons.mp h with e | h
    · cases e
      exact cloFrom_acc List.mem_cons_self
    · split
      · exact cloFrom_has h
      · exact cloFrom_has h
theorem cells_mem : ∀ {names : List (Str × NameKind)} {h : Heap} {acc : List (Str × Addr)} {x : Str} {c : Addr}, (x, c) ∈ cellsFrom h.objs.size names acc →
    (x, c) ∈ acc ∨ ((x, .cell) ∈ names ∧ h.objs.size ≤ c ∧ CellAt (pushCells h names) c none)
  | [], _, _, _, _, h => .inl h
  | (n, k) :: r, h, acc, x, c, hm => by
    unfold cellsFrom at hm
    unfold pushCells
    split at hm
    · rename_i hk
      rw [if_pos hk]
      have hk : k = .cell := by simpa using hk
      rw [← Heap.size_push h { cls := .type "cell", data := .cell none }] at hm
      rcases cells_mem hm with hm | ⟨h1, h2, h3⟩
      · rcases List.mem_cons.mp hm with e | hm
        · cases e
          exact .inr ⟨hk ▸ List.mem_cons_self, Nat.le_refl _, _, pushCells_keeps r _ _ _ (Heap.get?_push_size _ rfl), rfl⟩
        · exact .inl hm
      · rw [Heap.size_push] at h2
        exact .inr ⟨List.mem_cons_of_mem _ h1, Nat.le_of_succ_le h2, h3⟩
    · rename_i hk
      rw [if_neg hk]
      rcases cells_mem hm with hm | ⟨h1, h2, h3⟩
      · exact .inl hm
      · exact .inr ⟨List.mem_cons_of_mem _ h1, h2, h3⟩
theorem cells_acc : ∀ {names : List (Str × NameKind)} {n : Nat} {acc : List (Str × Addr)} {p : Str × Addr}, p ∈ acc → p ∈ cellsFrom n names acc
  | [], _, _, _, h => h
  | (m, k) :: r, n, acc, p, h => by
    unfold cellsFrom
    split
    · exact cells_acc (List.mem_cons_of_mem _ h)
    · exact cells_acc h
theorem cells_has : ∀ {names : List (Str × NameKind)} {n : Nat} {acc : List (Str × Addr)} {x : Str}, (x, .cell) ∈ names → ∃ c, (x, c) ∈ cellsFrom n names acc
  | (m, k) :: r, n, acc, x, h => by
    unfold cellsFrom
    rcases List.mem_cons.mp h with e | h
    · cases e
      exact ⟨n, cells_acc List.mem_cons_self⟩
    · split
      · exact cells_has h
      · exact cells_has h
theorem cells_inj : ∀ {names : List (Str × NameKind)} {h : Heap} {acc : List (Str × Addr)} {x y : Str} {c : Addr}, (∀ p ∈ acc, p.2 < h.objs.size) → (∀ x y c, (x, c) ∈ acc → (y, c) ∈ acc → x = y) →
    (x, c) ∈ cellsFrom h.objs.size names acc → (y, c) ∈ cellsFrom h.objs.size names acc → x = y
  | [], _, _, _, _, _, _, hi, h1, h2 => hi _ _ _ h1 h2
  | (n, k) :: r, h, acc, x, y, c, hl, hi, h1, h2 => by
    unfold cellsFrom at h1 h2
    split at h1
    · rename_i hk
      rw [if_pos hk] at h2
      rw [← Heap.size_push h { cls := .type "cell", data := .cell none }] at h1 h2
      refine cells_inj (h := h.push _) (fun p hp => ?_) (fun x y c a b => ?_) h1 h2
      · rw [Heap.size_push]
        rcases List.mem_cons.mp hp with rfl | hp
        · exact Nat.lt_succ_self _
        · exact Nat.lt_succ_of_lt (hl p hp)
      · rcases List.mem_cons.mp a with e | a <;> rcases List.mem_cons.mp b with e' | b
        · cases e; cases e'; rfl
        · cases e; exact absurd (hl _ b) (Nat.lt_irrefl _)
        · cases e'; exact absurd (hl _ a) (Nat.lt_irrefl _)
        · exact hi _ _ _ a b
    · rename_i hk
      rw [if_neg hk] at h2
      exact cells_inj hl hi h1 h2
theorem newEnv_comp {M : Model} {A : Around} {E : Value → Shared → Prop} {s : Shared} {scope : Scope} {globals : Addr} {closure : List (Str × Addr)} {qual : Str} {func : Option Addr} {code : Value} {around : Env} {builtins : Addr} {Q : Env → Shared → Prop}
    (h : Q (newEnv scope s.heap.objs.size globals (cellsFrom (s.heap.objs.size + 1) scope.names closure) qual func code (some around) builtins)
      { s with heap := pushCells (s.heap.push { cls := .type "dict", data := .dict #[] }) scope.names }) :
    wpAny M A (newFunctionEnv scope globals closure [] qual func code (some around) builtins) Q E s := by
  simp only [newFunctionEnv, Option.isSome_some, if_true]
  refine wpAny_bind (wpAny_alloc ?_)
  refine wpAny_bind (wpAny_layCells _ (fun n k c => rfl) scope.names closure _ _ ?_)
  rw [show ({ s with heap := s.heap.push { cls := .type "dict", data := .dict #[] } } : Shared).heap.objs.size = s.heap.objs.size + 1 from Heap.size_push ..]
  rw [List.forIn_nil]
  exact wpAny_bind (wpAny_pure (wpAny_pure h))
theorem lookup_relS {sc : Scope} : ∀ {names : List (Str × NameKind)} {x : Str} {k : NameKind},
    (names.map fun (n, k) => if (k == NameKind.free && sc.kind == .function && sc.names.lookup n == some .cell) then (n, NameKind.cell) else (n, k)).lookup x = some k →
    ∃ k', names.lookup x = some k' ∧ (k = k' ∨ (k' = .free ∧ k = .cell))
  | [], _, _, h => by simp at h
  | (n, k₀) :: r, x, k, h => by
    have ih := @lookup_relS sc r x k
    have h' : List.lookup x ((if (k₀ == NameKind.free && sc.kind == .function && sc.names.lookup n == some .cell) = true then (n, NameKind.cell) else (n, k₀)) :: (r.map _)) = some k := h
    cases hx : x == n with
    | true =>
      simp only [List.lookup_cons, hx]
      by_cases hc : (k₀ == NameKind.free && sc.kind == .function && sc.names.lookup n == some .cell) = true
      · rw [if_pos hc] at h'
        simp only [List.lookup_cons, hx] at h'
        cases h'
        simp only [Bool.and_eq_true, beq_iff_eq] at hc
        exact ⟨k₀, rfl, .inr ⟨hc.1.1, rfl⟩⟩
      · rw [if_neg hc] at h'
        simp only [List.lookup_cons, hx] at h'
        cases h'
        exact ⟨_, rfl, .inl rfl⟩
    | false =>
      simp only [List.lookup_cons, hx]
      by_cases hc : (k₀ == NameKind.free && sc.kind == .function && sc.names.lookup n == some .cell) = true
      · rw [if_pos hc] at h'
        simp only [List.lookup_cons, hx] at h'
        exact ih h'
      · rw [if_neg hc] at h'
        simp only [List.lookup_cons, hx] at h'
        exact ih h'
structure BlkOk (N : List Str) (sc scope : Scope) (own : List (Str × Nat)) : Prop where
  kind : scope.kind = .function
  uniq : ∀ y ∈ scope.names, scope.names.lookup y.1 = some y.2
  ix : ∀ p ∈ own, N[p.2]? = some p.1
  free : ∀ y ∈ scope.names, y.2 = .free → sc.names.lookup y.1 = some .cell ∨ sc.names.lookup y.1 = some .free
  own : ∀ y ∈ scope.names, y.2 = .local ∨ y.2 = .cell → y.1 ∈ own.map (·.1) ∨ y.1 ∉ N
def wipe (σ : St) : List Nat → St
  | [] => σ
  | v :: vs => (wipe σ vs).set v none
theorem wipe_length (σ : St) : ∀ vs : List Nat, (wipe σ vs).length = σ.length
  | [] => rfl
  | v :: vs => by unfold wipe; rw [List.length_set, wipe_length σ vs]
theorem wipe_some {σ : St} {i : Nat} {x : V} : ∀ {vs : List Nat}, (wipe σ vs)[i]? = some (some x) → σ[i]? = some (some x) ∧ i ∉ vs
  | [], h => ⟨h, by simp⟩
  | v :: vs, h => by
    unfold wipe at h
    by_cases hi : v = i
    · subst hi
      by_cases hv : v < (wipe σ vs).length
      · rw [List.getElem?_set_self hv] at h; cases h
      · rw [List.getElem?_eq_none (by simpa using hv)] at h; cases h
    · rw [List.getElem?_set_ne hi] at h
      obtain ⟨h1, h2⟩ := wipe_some h
      exact ⟨h1, by simp only [List.mem_cons, not_or]; exact ⟨fun e => hi e.symm, h2⟩⟩
abbrev Cx.blk (X : Cx) (s : Shared) (H : Hp) (scope : Scope) (cenv : Env) (fp : List Addr) : Cx := { X with s_0 := s, H_0 := H, env := cenv, outer := X.stack, ex := fp, fn := fun x => scope.names.lookup x == some .cell, pn := [], xe := fun _ _ => False }
section
variable {X : Cx} {pins : List (Addr × Obj)} {σ : St} {H : Hp} {s : Shared}
theorem block_start {scope : Scope} {own : List (Str × Nat)} {fp : List Addr} (I : Inv X pins σ H s) (ok : BlkOk X.N X.env.scope scope own) (hN : X.N.Nodup) (hfp : ∀ b ∈ fp, FpOk X pins H b ∧ b < s.heap.objs.size) :
    Inv (X.blk s H scope (compEnvC scope (cellsFrom (s.heap.objs.size + 1) scope.names (cloFrom X.env.cells scope.names [])) s.heap.objs.size X.env) fp) [] (wipe σ (own.map (·.2))) H { s with heap := pushCells (s.heap.push { cls := .type "dict", data := .dict #[] }) scope.names } := by
  have hfree : ∀ y ∈ scope.names, y.2 = .free → ∃ c, X.env.cells.lookup y.1 = some c := fun y hy e => by
    rcases ok.free y hy e with k | k
    · exact I.ok.has _ (.inl k)
    · exact I.ok.has _ (.inr k)
  generalize hcenv : compEnvC scope (cellsFrom (s.heap.objs.size + 1) scope.names (cloFrom X.env.cells scope.names [])) s.heap.objs.size X.env = cenv
  have kp : ∀ b o, s.heap.get? b = some o → (pushCells (s.heap.push { cls := .type "dict", data := .dict #[] }) scope.names).get? b = some o := fun b o e => pushCells_keeps _ _ _ _ (Heap.get?_push_of_some _ e)
  have hL : cenv.locals = s.heap.objs.size := by rw [← hcenv]; rfl
  have hcl : cenv.cells = cellsFrom (s.heap.objs.size + 1) scope.names (cloFrom X.env.cells scope.names []) := by rw [← hcenv]; rfl
  have hsc : cenv.scope = relS scope X.env.scope := by rw [← hcenv]; rfl
  rw [← Heap.size_push s.heap { cls := .type "dict", data := .dict #[] }] at hcl
  have cm : ∀ {y c}, (y, c) ∈ cloFrom X.env.cells scope.names [] → X.env.cells.lookup y = some c ∧ c < s.heap.objs.size := fun {y c} hm => by
    rcases cloFrom_mem hm with hm | ⟨h1, rfl⟩
    · cases hm
    · obtain ⟨c, hc⟩ := hfree _ h1 rfl
      rw [hc]
      obtain ⟨w, z⟩ := I.cell _ _ hc
      exact ⟨rfl, z.lt⟩
  have mem : ∀ {y c}, cenv.cells.lookup y = some c → (X.env.cells.lookup y = some c ∧ c < s.heap.objs.size) ∨ (s.heap.objs.size + 1 ≤ c ∧ CellAt (pushCells (s.heap.push { cls := .type "dict", data := .dict #[] }) scope.names) c none) := fun {y c} e => by
    rw [hcl] at e
    rcases cells_mem (PySem.mem_of_lookup e) with hm | ⟨_, h2, h3⟩
    · exact .inl (cm hm)
    · rw [Heap.size_push] at h2; exact .inr ⟨h2, h3⟩
  have look : ∀ {y}, scope.names.lookup y = some .free → ∃ c, cenv.cells.lookup y = some c ∧ X.env.cells.lookup y = some c := fun {y} hl => by
    have hy : (y, NameKind.free) ∈ scope.names := PySem.mem_of_lookup hl
    obtain ⟨c', e'⟩ := mem_lookup (cells_acc (names := scope.names) (n := (s.heap.push { cls := .type "dict", data := .dict #[] }).objs.size) (cloFrom_has (cells := X.env.cells) (acc := []) hy))
    rw [← hcl] at e'
    refine ⟨c', e', ?_⟩
    rw [hcl] at e'
    rcases cells_mem (PySem.mem_of_lookup e') with hm | ⟨h1, _, _⟩
    · exact (cm hm).1
    · have := ok.uniq _ h1
      rw [hl] at this; cases this
  have okB : (X.blk s H scope cenv fp).Ok := by
    refine ⟨I.ok.mod, by show cenv.scope.kind = _; rw [hsc]; exact ok.kind, by show cenv.globals = _; rw [← hcenv]; exact I.ok.glob, by show cenv.builtins = _; rw [← hcenv]; exact I.ok.blt, by show s.heap.objs.size ≤ cenv.locals; rw [hL]; exact Nat.le_refl _,
      fun y z c e1 e2 => ?_, fun y hy => ?_, fun y c z e => ?_, I.ok.hd, I.ok.frames, .inl rfl, fun b hb => ⟨?_, fun y c e z => ?_⟩, I.bs, Nat.le_trans I.ok.bsz I.sz, fun b o e hb => ?_, fun b hb z => ?_, I.stack, I.stkFree⟩
    · have e1 : cenv.cells.lookup y = some c := e1
      have e2 : cenv.cells.lookup z = some c := e2
      rw [hcl] at e1 e2
      refine cells_inj (fun p hp => ?_) (fun y z c a b => I.ok.inj y z c (cm a).1 (cm b).1) (PySem.mem_of_lookup e1) (PySem.mem_of_lookup e2)
      rw [Heap.size_push]
      exact Nat.lt_succ_of_lt (cm (y := p.1) (c := p.2) hp).2
    · show ∃ c, cenv.cells.lookup y = some c
      have key : ∀ k, cenv.kindOf y = some k → (k = .cell ∨ k = .free) → ∃ c, cenv.cells.lookup y = some c := fun k hk hk' => by
        unfold Env.kindOf at hk
        rw [hsc] at hk
        obtain ⟨k', e, r⟩ := lookup_relS hk
        have : k' = .cell ∨ k' = .free := by
          rcases r with rfl | ⟨rfl, _⟩
          · exact hk'
          · exact .inr rfl
        rcases this with rfl | rfl
        · obtain ⟨c, hm⟩ := cells_has (n := (s.heap.push { cls := .type "dict", data := .dict #[] }).objs.size) (acc := cloFrom X.env.cells scope.names []) (PySem.mem_of_lookup e)
          obtain ⟨c', e'⟩ := mem_lookup hm
          exact ⟨c', by rw [hcl]; exact e'⟩
        · obtain ⟨c, h1, _⟩ := look e
          exact ⟨c, h1⟩
      rcases hy with hy | hy
      · exact key _ hy (.inl rfl)
      · exact key _ hy (.inr rfl)
    · have z : (scope.names.lookup y == some NameKind.cell) = true := z
      have z : scope.names.lookup y = some .cell := by simpa using z
      have e : cenv.cells.lookup y = some c := e
      rw [hcl] at e
      rcases cells_mem (PySem.mem_of_lookup e) with hm | ⟨_, h2, _⟩
      · rcases cloFrom_mem hm with hm | ⟨h1, _⟩
        · cases hm
        · have q := ok.uniq _ h1
          rw [z] at q; cases q
      · rw [Heap.size_push] at h2
        exact Nat.le_of_succ_le h2
    · show b ≠ cenv.locals
      rw [hL]; exact Nat.ne_of_lt (hfp b hb).2
    · have e : cenv.cells.lookup y = some c := e
      rcases mem e with ⟨h1, _⟩ | ⟨h1, _⟩
      · exact (hfp b hb).1.2.2.2.2.1 y c h1 z
      · have h2 : s.heap.objs.size + 1 ≤ b := by rw [← z]; exact h1
        exact absurd (Nat.lt_of_lt_of_le (hfp b hb).2 (Nat.le_of_succ_le h2)) (Nat.lt_irrefl _)
    · rcases (hfp b hb).1.2.2.2.1 with z | z
      · exact I.ok.noex b o e z
      · exact absurd (Nat.lt_of_lt_of_le (Heap.lt_size e) (Nat.le_trans I.ok.bsz z)) (Nat.lt_irrefl _)
    · rcases List.mem_cons.mp (I.stkSub b z) with z | z
      · exact (hfp b hb).1.2.1 z
      · exact (hfp b hb).1.2.2.1 z
  refine ⟨okB, rfl, I.bare, Un.kept kp, ⟨fun _ => none, ?_, fun i y av e1 e2 e3 => ?_⟩, fun y c e => ?_, ?_, fun y c e => ?_, fun p hp => ?_, I.hok.kept kp, by rw [wipe_length]; exact I.len⟩
  · show Heap.Ns _ cenv.locals _
    rw [hL]
    exact Heap.Ns.keeps (Heap.Ns.new ..) fun b o e => pushCells_keeps _ _ _ _ e
  · obtain ⟨e2, hne⟩ := wipe_some e2
    have hfr : scope.names.lookup y = some .free ∧ (cenv.kindOf y = some .cell ∨ cenv.kindOf y = some .free) := by
      have key : ∀ k, cenv.scope.names.lookup y = some k → k = .local ∨ k = .cell ∨ k = .free → scope.names.lookup y = some .free ∧ (cenv.kindOf y = some .cell ∨ cenv.kindOf y = some .free) := fun k hk hk' => by
        have hk0 := hk
        rw [hsc] at hk
        obtain ⟨k', e, r⟩ := lookup_relS hk
        have no : ¬ (k' = .local ∨ k' = .cell) := fun hh => by
          rcases ok.own _ (PySem.mem_of_lookup e) hh with e' | e'
          · obtain ⟨p, hp, hpy⟩ := List.mem_map.mp e'
            have e3 := ok.ix p hp
            have : p.1 = y := hpy
            rw [this] at e3
            exact hne (List.mem_map.mpr ⟨p, hp, nodup_ix hN e3 e1⟩)
          · exact e' (List.mem_of_getElem? e1)
        rcases r with rfl | ⟨rfl, rfl⟩
        · rcases hk' with rfl | rfl | rfl
          · exact absurd (.inl rfl) no
          · exact absurd (.inr rfl) no
          · exact ⟨e, .inr hk0⟩
        · exact ⟨e, .inl hk0⟩
      have e3 : Vis cenv.scope y := e3
      rcases e3 with e3 | e3 | e3
      · exact key _ e3 (.inl rfl)
      · exact key _ e3 (.inr (.inl rfl))
      · exact key _ e3 (.inr (.inr rfl))
    obtain ⟨m, hn, hl⟩ := I.loc
    have hvis : Vis X.env.scope y := (ok.free _ (PySem.mem_of_lookup hfr.1) rfl).elim (fun k => .inr (.inl k)) (fun k => .inr (.inr k))
    obtain ⟨w, r, q⟩ := hl i y av e1 e2 hvis
    refine ⟨w, r, .inr ⟨hfr.2, ?_⟩⟩
    obtain ⟨c, h1, h2⟩ := look hfr.1
    rcases q with ⟨k, _⟩ | ⟨_, c', e', z⟩
    · have k : X.env.scope.names.lookup y = some .local := k
      rcases ok.free _ (PySem.mem_of_lookup hfr.1) rfl with k' | k' <;> rw [show X.env.scope.names.lookup y = _ from k'] at k <;> cases k
    · rw [h2] at e'; cases e'
      exact ⟨c, h1, z.keeps kp⟩
  · have e : cenv.cells.lookup y = some c := e
    rcases mem e with ⟨h1, _⟩ | ⟨_, z⟩
    · obtain ⟨w, z⟩ := I.cell y c h1
      exact ⟨w, z.keeps kp⟩
    · exact ⟨_, z⟩
  · show H cenv.locals = none
    rw [hL]; exact I.hok.fresh (Nat.le_refl _)
  · have e : cenv.cells.lookup y = some c := e
    rcases mem e with ⟨h1, _⟩ | ⟨h1, _⟩
    · exact I.freeC y c h1
    · exact I.hok.fresh (Nat.le_of_succ_le h1)
  · exact absurd (show p ∈ ([] : List (Addr × Obj)) ++ [] from hp) (by simp)
theorem app_ok {E : Value → Shared → Prop} {D : Addr} {xs : List V} {y : V} {v : Value} {Q : Value → Shared → Prop} (I : Inv X pins σ H s) (hD : H D = some (.lst xs)) (hz : xs.length < sizeLine) (r : RelV y v)
    (h : ∀ s', Inv X pins σ (upd H D (.lst (xs ++ [y]))) s' → Q .none s') : wpAny (model X.prog X.w) X.A (call (.builtin "list.append") [.ref D, v]) Q E s := by
  obtain ⟨hz', its, n, ri, e⟩ := I.hok D _ hD
  have hl := ri.length
  refine append_at (hsz := by rw [List.size_toArray]; omega) e fun h' sb ho' => ?_
  refine h { s with heap := h' } (I.write (t' := s.toks) (by rw [hD]; trivial) (.inl rfl) (fun b u hb q => (sb.2 b hb).trans q) ⟨_, ho'⟩ ⟨by rw [List.length_append]; exact hz, its ++ [v], n + 1, ri.append (.cons r .nil), ?_⟩)
  rw [ho']
  simp
def PTs (X : Cx) (ifs : List Expr) (t : TT) : Prop :=
  ∀ (pins : List (Addr × Obj)) (s : Shared) (σ : St) (H : Hp) (Q : Bool → Hp → Prop), Inv X pins σ H s → t σ H Q →
    wpAny (model X.prog X.w) X.A (forIn ifs true fun c r => if r = true then do let ok ← isTrue c X.env (eval c X.env); pure (ForInStep.yield ok) else pure (ForInStep.yield r)) (TP X pins σ Q) X.xe s
def tYes : TT := fun _ H Q => Q true H
theorem pts_nil : PTs X [] tYes := fun _ _ _ H _ I h => wpAny_tests_nil ⟨H, I, h⟩
theorem pts_one {c : Expr} {t : TT} (h : PT X c t) : PTs X [c] t := fun pins s σ H Q I hw => wpAny_tests_one (h pins s σ H Q I hw)
end
theorem thnF {α : Type} {t : Sem α} {Q Q' : α → Shared → Prop} {M : Model} {A : Around} {E : Value → Shared → Prop} {s : Shared} (h : wpAny M A t Q (fun _ _ => False) s) (hQ : ∀ a s, Q a s → Q' a s) : wpAny M A t Q' E s := wpAny_mono h hQ fun _ _ z => False.elim z
theorem compLoop_any {prog : Program} {w : World} {A : Around} {R : Result → Shared → Prop} {s : Shared} {elt target iter : Expr} {ifs : List Expr} {scope : Scope} {pos : Pos} {it acc : Value} {env : Env} (I : Nat → Shared → Prop)
    (turn : ∀ n s, I n s → wpAny (model prog w) A (pyNext it) (fun r s₁ => match r with
      | none => R (.ok .next) s₁
      | some v => wpAny (model prog w) A (letOwnedTupleGo target it v) (fun _ s₁' => wpAny (model prog w) A (assign target env v) (fun _ s₂ =>
          wpAny (model prog w) A (forIn ifs true fun c r => if r = true then do let ok ← isTrue c env (eval c env); pure (ForInStep.yield ok) else pure (ForInStep.yield r)) (fun ok s₃ =>
            if ok = true then wpAny (model prog w) A (eval elt env) (fun x s₄ =>
              wpAny (model prog w) A (call (.builtin "list.append") [acc, x]) (fun _ s₅ => ∃ m, m < n ∧ I m s₅) (notedBy (model prog w) A env fun e s' => R (.error e) s') s₄) (notedBy (model prog w) A env fun e s' => R (.error e) s') s₃
            else ∃ m, m < n ∧ I m s₃) (notedBy (model prog w) A env fun e s' => R (.error e) s') s₂) (notedBy (model prog w) A env fun e s' => R (.error e) s') s₁') (notedBy (model prog w) A env fun e s' => R (.error e) s') s₁) (notedBy (model prog w) A env fun e s' => R (.error e) s') s)
    (n : Nat) (h : I n s) :
    codeAny (model prog w) A (.compLoop (.ListComp elt [⟨target, iter, ifs, 0⟩] scope pos) 0 it acc env) R s := by
  refine codeAny_loop rfl I (fun n s hI => ?_) n h
  show wpAny _ A ((compTurn (.ListComp elt [⟨target, iter, ifs, 0⟩] scope pos) 0 it acc env).onRaise (fun x => do noteFrame x env; theTreesLotGoes x)) _ _ s
  refine wpAny_noted ?_
  rw [compTurn_list]
  refine wpAny_bind (wpAny_standAt (wpAny_bind (wpAny_mono (turn n s hI) (fun r s₁ h₁ => ?_) fun _ _ h' => h')))
  cases r with
  | none => exact wpAny_pure h₁
  | some v =>
    refine wpAny_bind (wpAny_mono h₁ (fun _ s₁' h₁' => ?_) fun _ _ h' => h')
    refine wpAny_bind (wpAny_mono h₁' (fun _ s₂ h₂ => wpAny_bind (wpAny_mono h₂ (fun ok s₃ h₃ => ?_) fun _ _ h' => h')) fun _ _ h' => h')
    cases ok with
    | false => exact wpAny_pure ⟨rfl, h₃⟩
    | true =>
      exact wpAny_bind (wpAny_bind (wpAny_mono h₃ (fun x s₄ h₄ => wpAny_bind (wpAny_mono h₄ (fun _ s₅ h₅ => wpAny_pure (wpAny_pure ⟨rfl, h₅⟩)) fun _ _ h' => h')) fun _ _ h' => h'))
section
variable {X : Cx}
def tLc (wi : TI) (g : TG) (tt : TT) (te : TE) (vs : List Nat) : TE := fun σ H Q => wi σ H fun J H1 => ∀ D, H1 D = none → ∃ W : Nat → Nat → Hp → Prop, (∃ m, W 0 m (upd H1 D (.lst []))) ∧ ∀ i m H, W i m H →
  (J.stop i H ∧ Q (.ref D) H) ∨ (J.go i H ∧ ∃ Nx : Hp → Prop, (∀ H', Nx H' → ∃ m', m' < m ∧ W (i + 1) m' H') ∧ ∀ x H', J.yld i H x H' → g x (wipe σ vs) H' fun σ2 H2 => wipe σ2 vs = wipe σ vs ∧ tt σ2 H2 fun b H3 =>
    if b = true then te σ2 H3 fun y H4 => ∃ acc, H4 D = some (.lst acc) ∧ acc.length < sizeLine ∧ Nx (upd H4 D (.lst (acc ++ [y]))) else Nx H3)
theorem lc_core {pins : List (Addr × Obj)} {s : Shared} {σ : St} {H : Hp} {Q : VK} {elt tg iter : Expr} {ifs : List Expr} {scope : Scope} {own : List (Str × Nat)} {pos pos' : Pos} {wi : TI} {g : TG} {tt : TT} {te : TE} {use : Option (Value → Sem Unit)} {Qf : Value → Shared → Prop}
    (hc : X.calm = true) (hN : X.N.Nodup) (I : Inv X pins σ H s) (hi : PI X tg iter wi) (ok : BlkOk X.N X.env.scope scope own)
    (hg : ∀ (s : Shared) (H : Hp) (C : Addr) (cl : List (Str × Addr)) (fp : List Addr), PG (X.blk s H scope (compEnvC scope cl C X.env) fp) tg g) (ht : ∀ (s : Shared) (H : Hp) (C : Addr) (cl : List (Str × Addr)) (fp : List Addr), PTs (X.blk s H scope (compEnvC scope cl C X.env) fp) ifs tt)
    (he : ∀ (s : Shared) (H : Hp) (C : Addr) (cl : List (Str × Addr)) (fp : List Addr), PE (X.blk s H scope (compEnvC scope cl C X.env) fp) elt te) (hs : ∀ x, foldedSetIterable iter X.env x = pure x)
    (h : tLc wi g tt te (own.map (·.2)) σ H Q)
    (hRR : ∀ D C s' m H', Inv X pins σ H' s' → Q (.ref D) H' → s'.heap.Ns C m → FpOk X pins H' C → compPost (model X.prog X.w) X.A X.xe use Qf (.ref D) C (.ok .next) s') :
    wpAny (model X.prog X.w) X.A (comprehension (.ListComp elt [⟨tg, iter, ifs, 0⟩] scope pos) scope X.env pos' (newList []) false (eval iter X.env) use) Qf X.xe s := by
  have hfree : ∀ y ∈ scope.names, y.2 = .free → ∃ c, X.env.cells.lookup y.1 = some c := fun y hy e => by
    rcases ok.free y hy e with k | k
    · exact I.ok.has _ (.inl k)
    · exact I.ok.has _ (.inr k)
  refine wpAny_comprehension_free (use := use) rfl hs (closure_ok hfree) ok.kind (fun y hy e => by rw [ok.uniq y hy, e])
    (thn (hi pins s σ H _ I h) fun xv s1 hx => thn hx fun itv s2 h2 => ?_)
  obtain ⟨it, fp, tn, J, H2, e, I2, T, st2, f2, q⟩ := h2
  subst e
  refine wpAny_newObj_type (newEnv_comp ?_) (by show 0 ≤ sizeLine; decide)
  generalize hD : s2.heap.objs.size = D
  have hDn : H2 D = none := I2.hok.fresh (Nat.le_of_eq hD)
  obtain ⟨W, ⟨m0, w0⟩, turn⟩ := q D hDn
  generalize hs3 : ({ s2 with heap := s2.heap.push { cls := .type "list", data := .seq ([] : List Value).toArray } } : Shared) = s3
  have I3 : Inv X pins σ (upd H2 D (.lst [])) s3 := by
    rw [← hs3]
    refine I2.laid (t' := s2.toks) (fun b o e => Heap.get?_push_of_some _ e) (Nat.le_of_eq hD) ⟨Nat.zero_le _, [], 0, .nil, ?_⟩
    rw [← hD]
    exact Heap.get?_push_size _ rfl
  have h3 : s3.heap = s2.heap.push { cls := .type "list", data := .seq ([] : List Value).toArray } := by rw [← hs3]
  have sz : ∀ b ∈ fp, b < s2.heap.objs.size := fun b hb => by
    obtain ⟨o, e, _⟩ := T.obj _ _ st2 b hb
    exact Heap.lt_size e
  have f3 : ∀ b ∈ fp, FpOk X pins (upd H2 D (.lst [])) b ∧ b < s3.heap.objs.size := fun b hb => by
    have hlt := sz b hb
    refine ⟨⟨?_, (f2 b hb).2⟩, by rw [h3, Heap.size_push]; exact Nat.lt_succ_of_lt hlt⟩
    rw [upd_ne (by rw [← hD]; exact Nat.ne_of_lt hlt)]
    exact (f2 b hb).1
  have st3 : tn 0 s3.heap := T.keep _ _ _ st2 fun b _ o e => by rw [h3]; exact Heap.get?_push_of_some _ e
  have I4 := block_start I3 ok hN f3
  have pg := hg s3 (upd H2 D (.lst [])) s3.heap.objs.size (cellsFrom (s3.heap.objs.size + 1) scope.names (cloFrom X.env.cells scope.names [])) fp
  have pt := ht s3 (upd H2 D (.lst [])) s3.heap.objs.size (cellsFrom (s3.heap.objs.size + 1) scope.names (cloFrom X.env.cells scope.names [])) fp
  have pe := he s3 (upd H2 D (.lst [])) s3.heap.objs.size (cellsFrom (s3.heap.objs.size + 1) scope.names (cloFrom X.env.cells scope.names [])) fp
  show codeAny _ _ (.compStart (.ListComp elt [⟨tg, iter, ifs, 0⟩] scope pos) 0 (.ref it) (.ref D) (compEnvC scope (cellsFrom (s3.heap.objs.size + 1) scope.names (cloFrom X.env.cells scope.names [])) s3.heap.objs.size X.env)) (compPost (model X.prog X.w) X.A X.xe use Qf (.ref D) s3.heap.objs.size) { s3 with heap := pushCells (s3.heap.push { cls := .type "dict", data := .dict #[] }) scope.names }
  have nfp : ∀ b ∈ fp, (upd H2 D (.lst [])) b = none := fun b hb => (f3 b hb).1.1
  generalize hce : compEnvC scope (cellsFrom (s3.heap.objs.size + 1) scope.names (cloFrom X.env.cells scope.names [])) s3.heap.objs.size X.env = ce at I4 pg pt pe ⊢
  have cL : ce.locals = s3.heap.objs.size := by subst hce; rfl
  generalize hH3 : upd H2 D (.lst []) = H3 at I3 I4 pg pt pe w0 nfp f3
  generalize hs4 : ({ s3 with heap := pushCells (s3.heap.push { cls := .type "dict", data := .dict #[] }) scope.names } : Shared) = s4 at I4 ⊢
  have st4 : tn 0 s4.heap := T.keep _ _ _ st3 fun b _ o e => by rw [← hs4]; exact pushCells_keeps _ _ _ _ (Heap.get?_push_of_some _ e)
  have stat : ∀ {σ' : St} {H' : Hp} {s' : Shared}, Inv (X.blk s3 H3 scope ce fp) [] σ' H' s' → (∀ b ∈ fp, H' b = none) → ∀ b ∈ fp, FpOk (X.blk s3 H3 scope ce fp) [] H' b := fun {σ' H' s'} I' hn b hb =>
    ⟨hn b hb, (I'.ok.exf b hb).1, I'.ok.exfs b hb, .inl hb, fun x c e => (I'.ok.exf b hb).2 x c e, fun p hp => absurd (show p ∈ ([] : List (Addr × Obj)) ++ [] from hp) (by simp)⟩
  have loop : codeAny (model X.prog X.w) X.A (.compLoop (.ListComp elt [⟨tg, iter, ifs, 0⟩] scope pos) 0 (.ref it) (.ref D) ce) (compPost (model X.prog X.w) X.A X.xe use Qf (.ref D) s3.heap.objs.size) s4 := by
    refine compLoop_any (fun n s' => ∃ i H', Inv (X.blk s3 H3 scope ce fp) [] (wipe σ (own.map (·.2))) H' s' ∧ tn i s'.heap ∧ (∀ b ∈ fp, H' b = none) ∧ W i n H') ?_ m0 ⟨0, H3, I4, st4, nfp, w0⟩
    rintro n s5 ⟨i, H5, I5, st5, n5, w5⟩
    rcases turn i n H5 w5 with ⟨stop, qq⟩ | ⟨go, Nx, hNx, step⟩
    · have td := T.done (X.blk s3 H3 scope ce fp) rfl rfl rfl hc i [] s5 _ H5 (fun _ _ => False) I5 (stat I5 n5) st5 stop
      refine thnF td fun r s6 ⟨hr, I6⟩ => ?_
      subst hr
      have I7 : Inv X pins σ H5 s6 := I3.call' (ch := fp) I6.os I6.base I6.hok I6.bare fun b hb => ⟨(f3 b hb).1.2.2.2.1, (f3 b hb).1.2.1, (f3 b hb).1.2.2.2.2.1, (f3 b hb).1.2.2.2.2.2⟩
      have nC : H5 s3.heap.objs.size = none := by
        have z : H5 ce.locals = none := I6.free
        rw [cL] at z
        exact z
      obtain ⟨m, hn, _⟩ := I6.loc
      have hn : s6.heap.Ns ce.locals m := hn
      rw [cL] at hn
      exact hRR D s3.heap.objs.size s6 m H5 I7 qq hn (I3.fpOk (Nat.le_refl _) nC)
    · have ti := T.item (X.blk s3 H3 scope ce fp) rfl rfl rfl hc i [] s5 _ H5 (fun _ _ => False) I5 (stat I5 n5) st5 go
      refine thnF ti fun r s6 ⟨u, hr, h6⟩ => ?_
      subst hr
      refine thnF h6 fun _ s7 ⟨x, H7, I7, r7, y7, st7, n7⟩ => ?_
      have I7' := I7.pinned (stat I7 n7) (T.obj _ _ st7)
      refine thnF (pg _ s7 _ H7 x u _ I7' r7 (step x H7 y7)) fun _ s8 ⟨σ8, H8, I8, hw8, q8⟩ => ?_
      refine thnF (pt _ s8 σ8 H8 _ I8 q8) fun b s9 ⟨H9, I9, q9⟩ => ?_
      have fin : ∀ {s' : Shared} {H' : Hp}, Inv (X.blk s3 H3 scope ce fp) ([] ++ pinsAt fp s7.heap) σ8 H' s' → Nx H' → ∃ m, m < n ∧ ∃ i H', Inv (X.blk s3 H3 scope ce fp) [] (wipe σ (own.map (·.2))) H' s' ∧ tn i s'.heap ∧ (∀ b ∈ fp, H' b = none) ∧ W i m H' := fun {s' H'} I' nx => by
        obtain ⟨m', hm, w'⟩ := hNx H' nx
        have pin' : ∀ b ∈ fp, ∀ o, s7.heap.get? b = some o → s'.heap.get? b = some o ∧ H' b = none := fun b hb o e =>
          let z := I'.pin (b, o) (List.mem_append_right _ (List.mem_append_right _ (mem_pinsAt hb e)))
          ⟨z.1, z.2.1⟩
        have hl : (wipe σ (own.map (·.2))).length = σ8.length := by rw [← hw8, wipe_length]
        refine ⟨m', hm, i + 1, H', (I'.unpinned (pins := [])).weak hl (fun j v e => ?_), T.keep _ _ _ st7 fun b hb o e => (pin' b hb o e).1, fun b hb => ?_, w'⟩
        · rw [← hw8] at e
          exact (wipe_some e).1
        · obtain ⟨o, e, _⟩ := T.obj _ _ st7 b hb
          exact (pin' b hb o e).2
      cases b with
      | false =>
        simp only [Bool.false_eq_true, if_false] at q9 ⊢
        exact fin I9 q9
      | true =>
        simp only [if_true] at q9 ⊢
        refine thnF (pe _ s9 σ8 H9 _ I9 q9) fun z s10 ⟨yv, H10, I10, r10, acc, hD10, hz10, nx⟩ => ?_
        exact app_ok (X := X.blk s3 H3 scope ce fp) I10 hD10 hz10 r10 fun s11 I11 => fin I11 nx
  exact codeAny_compStart_list loop (T.self X.A 0 _ _ _ st4 loop)
theorem pe_lc {elt tg iter : Expr} {ifs : List Expr} {scope : Scope} {own : List (Str × Nat)} {pos : Pos} {wi : TI} {g : TG} {tt : TT} {te : TE} (hc : X.calm = true) (hN : X.N.Nodup) (hi : PI X tg iter wi) (ok : BlkOk X.N X.env.scope scope own)
    (hg : ∀ (s : Shared) (H : Hp) (C : Addr) (cl : List (Str × Addr)) (fp : List Addr), PG (X.blk s H scope (compEnvC scope cl C X.env) fp) tg g) (ht : ∀ (s : Shared) (H : Hp) (C : Addr) (cl : List (Str × Addr)) (fp : List Addr), PTs (X.blk s H scope (compEnvC scope cl C X.env) fp) ifs tt)
    (he : ∀ (s : Shared) (H : Hp) (C : Addr) (cl : List (Str × Addr)) (fp : List Addr), PE (X.blk s H scope (compEnvC scope cl C X.env) fp) elt te) (hs : ∀ x, foldedSetIterable iter X.env x = pure x := by intro _; rfl) :
    PE X (.ListComp elt [⟨tg, iter, ifs, 0⟩] scope pos) (tLc wi g tt te (own.map (·.2))) := by
  intro pins s σ H Q I h
  rw [eval_ListComp]
  refine lc_core hc hN I hi ok hg ht he hs h fun D C s' m H' I' q hn f => ⟨m, hn, fun h'' sb => ?_⟩
  obtain ⟨f0, f1, f2, f3, f4, f5⟩ := f
  exact ⟨.ref D, H', I'.turned (t' := s'.toks) (fun b o hb e => (sb.2 b hb).trans e) f0 f1 f3 f4 f5, rfl, q⟩
theorem ps_setLc {i : Nat} {y : Str} {py : Pos} {elt tg iter : Expr} {ifs : List Expr} {scope : Scope} {own : List (Str × Nat)} {pos spos : Pos} {wi : TI} {g : TG} {tt : TT} {te : TE} (hc : X.calm = true) (hN : X.N.Nodup) (hy : X.N[i]? = some y) (hyl : X.env.scope.names.lookup y = some .local)
    (hsw : swapsWith (.ListComp elt [⟨tg, iter, ifs, 0⟩] scope pos) (some (.Name y py)) spos.line X.env = pure true) (hi : PI X tg iter wi) (ok : BlkOk X.N X.env.scope scope own)
    (hg : ∀ (s : Shared) (H : Hp) (C : Addr) (cl : List (Str × Addr)) (fp : List Addr), PG (X.blk s H scope (compEnvC scope cl C X.env) fp) tg g) (ht : ∀ (s : Shared) (H : Hp) (C : Addr) (cl : List (Str × Addr)) (fp : List Addr), PTs (X.blk s H scope (compEnvC scope cl C X.env) fp) ifs tt)
    (he : ∀ (s : Shared) (H : Hp) (C : Addr) (cl : List (Str × Addr)) (fp : List Addr), PE (X.blk s H scope (compEnvC scope cl C X.env) fp) elt te) (hs : ∀ x, foldedSetIterable iter X.env x = pure x := by intro _; rfl) :
    PS X (.Assign [.Name y py] (.ListComp elt [⟨tg, iter, ifs, 0⟩] scope pos) spos) (tAsg (tLc wi g tt te (own.map (·.2))) (gName i)) := by
  intro pins s σ H D I h
  rw [exec_Assign_Name_used _ _ _ _ hsw]
  refine wpAny_bind (wpAny_standAt (wpAny_bind ?_))
  show wpAny _ X.A (do let _ ← comprehension (.ListComp elt [⟨tg, iter, ifs, 0⟩] scope pos) scope X.env (firstIterPos [⟨tg, iter, ifs, 0⟩] pos) (newList []) false (eval iter X.env) (some (assign (.Name y py) X.env))) _ _ s
  have h : tLc wi g tt te (own.map (·.2)) σ H (fun x H1 => gName i x σ H1 D.nx) := h
  refine wpAny_bind (thn (lc_core (Qf := fun _ s' => SP X pins D .next s') hc hN I hi ok hg ht he hs h fun L C s' m H' I' q hn f => ?_) fun _ s' hq => wpAny_pure (wpAny_pure hq))
  show wpAny _ _ (assign (.Name y py) X.env (.ref L)) _ _ _
  refine wpAny_assign_Name (store_ok2 (v := V.ref L) I' hN hy (.inl hyl) rfl (fun s2 I2 ⟨a, sb, ha⟩ => ?_) (.inr hyl))
  obtain ⟨f0, f1, f2, f3, f4, f5⟩ := f
  have haC : C ≠ a := by
    rcases ha with z | z
    · rw [z]; exact f1
    · exact fun e => f4 y a z e.symm
  refine ⟨m, hn.sameBut sb haC, fun h3 sb3 => ?_⟩
  exact ⟨_, H', I2.turned (t' := s2.toks) (fun b o hb e => (sb3.2 b hb).trans e) f0 f1 f3 f4 f5, q⟩
theorem sw_true {elt : Expr} {gs : List Comprehension} {scope : Scope} {pos py : Pos} {y : Str} {l : Nat} {env : Env} (hk : env.scope.kind = .function) (hy : env.scope.names.lookup y = some .local) (hl : (py.line == pos.line) = true)
    (ha : (scope.names.any fun (n, k) => n == y && (k == .local || k == .cell)) = false) : swapsWith (.ListComp elt gs scope pos) (some (.Name y py)) l env = pure true := by
  have ky : env.kindOf y = some .local := hy
  have hb : env.blockKind = .function := by unfold Env.blockKind; rw [hk]; rfl
  unfold swapsWith
  simp only [hb, ky, ha, Expr.pos, hl]
  rfl
end
theorem lc_range {lo : Int} {n : Nat} {g : TG} {tt : TT} {te : TE} {vs : List Nat} {σ : St} {H1 : Hp} {D : Addr} {Qd : Hp → Prop} (Pv : Nat → Hp → Prop) (h0 : Pv 0 (upd H1 D (.lst [])))
    (hs : ∀ i H, i < n → Pv i H → g (.int (lo + i)) (wipe σ vs) H fun σ2 H2 => wipe σ2 vs = wipe σ vs ∧ tt σ2 H2 fun b H3 =>
      if b = true then te σ2 H3 fun y H4 => ∃ acc, H4 D = some (.lst acc) ∧ acc.length < sizeLine ∧ Pv (i + 1) (upd H4 D (.lst (acc ++ [y]))) else Pv (i + 1) H3) (hd : ∀ H, Pv n H → Qd H) :
    ∃ W : Nat → Nat → Hp → Prop, (∃ m, W 0 m (upd H1 D (.lst []))) ∧ ∀ i m H, W i m H →
      ((Itr lo n).stop i H ∧ Qd H) ∨ ((Itr lo n).go i H ∧ ∃ Nx : Hp → Prop, (∀ H', Nx H' → ∃ m', m' < m ∧ W (i + 1) m' H') ∧ ∀ x H', (Itr lo n).yld i H x H' → g x (wipe σ vs) H' fun σ2 H2 => wipe σ2 vs = wipe σ vs ∧ tt σ2 H2 fun b H3 =>
        if b = true then te σ2 H3 fun y H4 => ∃ acc, H4 D = some (.lst acc) ∧ acc.length < sizeLine ∧ Nx (upd H4 D (.lst (acc ++ [y]))) else Nx H3) := by
  refine ⟨fun i m H => m = n - i ∧ i ≤ n ∧ Pv i H, ⟨n, by simp, Nat.zero_le _, h0⟩, ?_⟩
  rintro i m H ⟨rfl, hi, p⟩
  by_cases hlt : i < n
  · refine .inr ⟨hlt, Pv (i + 1), fun H' p' => ⟨n - (i + 1), by omega, rfl, hlt, p'⟩, fun x H' y => ?_⟩
    obtain ⟨e, y⟩ := y
    subst e y
    exact hs i _ hlt p
  · have e : i = n := by omega
    subst e
    exact .inl ⟨Nat.le_refl _, hd H p⟩
theorem lc_tup {K : PySem.W.Frag} {a : Addr} {xs : List V} {g : TG} {tt : TT} {te : TE} {vs : List Nat} {σ : St} {H1 : Hp} {D : Addr} {Qd : Hp → Prop} (Pv : Nat → Hp → Prop) (h0 : Pv 0 (upd H1 D (.lst []))) (hl : ∀ i H, i ≤ xs.length → Pv i H → SqT K H a xs)
    (hs : ∀ i x H, xs[i]? = some x → Pv i H → g x (wipe σ vs) H fun σ2 H2 => wipe σ2 vs = wipe σ vs ∧ tt σ2 H2 fun b H3 =>
      if b = true then te σ2 H3 fun y H4 => ∃ acc, H4 D = some (.lst acc) ∧ acc.length < sizeLine ∧ Pv (i + 1) (upd H4 D (.lst (acc ++ [y]))) else Pv (i + 1) H3) (hd : ∀ H, Pv xs.length H → Qd H) :
    ∃ W : Nat → Nat → Hp → Prop, (∃ m, W 0 m (upd H1 D (.lst []))) ∧ ∀ i m H, W i m H →
      ((Itt K a).stop i H ∧ Qd H) ∨ ((Itt K a).go i H ∧ ∃ Nx : Hp → Prop, (∀ H', Nx H' → ∃ m', m' < m ∧ W (i + 1) m' H') ∧ ∀ x H', (Itt K a).yld i H x H' → g x (wipe σ vs) H' fun σ2 H2 => wipe σ2 vs = wipe σ vs ∧ tt σ2 H2 fun b H3 =>
        if b = true then te σ2 H3 fun y H4 => ∃ acc, H4 D = some (.lst acc) ∧ acc.length < sizeLine ∧ Nx (upd H4 D (.lst (acc ++ [y]))) else Nx H3) := by
  refine ⟨fun i m H => m = xs.length - i ∧ i ≤ xs.length ∧ Pv i H, ⟨xs.length, by simp, Nat.zero_le _, h0⟩, ?_⟩
  rintro i m H ⟨rfl, hi, p⟩
  have q := hl i H hi p
  by_cases hlt : i < xs.length
  · refine .inr ⟨⟨xs, xs[i], q, by simp [hlt]⟩, Pv (i + 1), fun H' p' => ⟨xs.length - (i + 1), by omega, rfl, hlt, p'⟩, fun x H' y => ?_⟩
    obtain ⟨e, y⟩ := y
    subst e
    exact hs i x _ (y xs q) p
  · have e : i = xs.length := by omega
    subst e
    exact .inl ⟨⟨xs, q, Nat.le_refl _⟩, hd H p⟩
def blkC (N : List Str) (sc scope : Scope) (own : List (Str × Nat)) : Bool :=
  (match scope.kind with | .function => true | _ => false) && (scope.names.all fun y => decide (scope.names.lookup y.1 = some y.2)) && (own.all fun p => decide (N[p.2]? = some p.1)) &&
    (scope.names.all fun y => match y.2 with
      | .free => (match sc.names.lookup y.1 with | some .cell => true | some .free => true | _ => false)
      | .local => decide (y.1 ∈ own.map (·.1)) || decide (y.1 ∉ N)
      | .cell => decide (y.1 ∈ own.map (·.1)) || decide (y.1 ∉ N)
      | _ => true)
theorem blkOk_by {N : List Str} {sc scope : Scope} {own : List (Str × Nat)} (h : blkC N sc scope own = true) : BlkOk N sc scope own := by
  unfold blkC at h
  simp only [Bool.and_eq_true, List.all_eq_true, decide_eq_true_eq] at h
  obtain ⟨⟨⟨h1, h2⟩, h3⟩, h4⟩ := h
  refine ⟨?_, h2, h3, fun y hy e => ?_, fun y hy e => ?_⟩
  · split at h1
    · assumption
    · cases h1
  · have q := h4 y hy
    simp only [e] at q
    split at q <;> first | exact .inl (by assumption) | exact .inr (by assumption) | cases q
  · have q := h4 y hy
    rcases e with e | e <;> (simp only [e, Bool.or_eq_true, decide_eq_true_eq] at q; exact q)
end L2
namespace L2
open PySem PySem.Spec PyProof.Rows
section
variable {prog : Program} {w : World} {A : Around} {R : Result → Shared → Prop} {s : Shared} {elt t0 i0 t1 i1 : Expr} {ifs0 ifs1 : List Expr} {scope : Scope} {pos : Pos} {it acc : Value} {env : Env}
end
section
variable {X : Cx}
end
end L2
namespace L2
open PySem PySem.Spec PyProof.Rows
section
variable {κ : Type} [DecidableEq κ]
def valV (kvs : List (κ × V)) (k : κ) : Option V := (kvs.find? fun kv => decide (kv.1 = k)).map (·.2)
def putK (kvs : List (κ × V)) (k : κ) (v : V) : List (κ × V) :=
  if (kvs.any fun kv => decide (kv.1 = k)) = true then kvs.map (fun kv => if kv.1 = k then (kv.1, v) else kv) else kvs ++ [(k, v)]
def dropK (kvs : List (κ × V)) (k : κ) : List (κ × V) := kvs.filter fun kv => decide (kv.1 ≠ k)
theorem valV_pos {p : κ × V} {r : List (κ × V)} {k : κ} (e : p.1 = k) : valV (p :: r) k = some p.2 := by simp [valV, List.find?_cons, e]
theorem valV_neg {p : κ × V} {r : List (κ × V)} {k : κ} (e : ¬ p.1 = k) : valV (p :: r) k = valV r k := by simp [valV, List.find?_cons, e]
theorem valV_any (k : κ) : ∀ kvs : List (κ × V), (kvs.any fun kv => decide (kv.1 = k)) = (valV kvs k).isSome
  | [] => rfl
  | p :: r => by
    rw [List.any_cons]
    by_cases e : p.1 = k
    · simp only [valV_pos e, decide_eq_true e, Bool.true_or, Option.isSome_some]
    · rw [valV_neg e, decide_eq_false e, Bool.false_or]; exact valV_any k r
theorem RelO.isSome_eq {o : Option V} {u : Option Value} (r : RelO o u) : o.isSome = u.isSome := by
  cases o with
  | none => cases u with
    | none => rfl
    | some _ => exact (show False from r).elim
  | some _ => cases u with
    | none => exact (show False from r).elim
    | some _ => rfl
theorem RelO.getD {o : Option V} {u : Option Value} {d : V} {d' : Value} (r : RelO o u) (rd : RelV d d') : RelV (o.getD d) (u.getD d') := by
  cases o with
  | none => cases u with
    | none => exact rd
    | some _ => exact (show False from r).elim
  | some _ => cases u with
    | none => exact (show False from r).elim
    | some _ => exact r
theorem KV.val {kvs : List (κ × V)} {vs : List (κ × Value)} (r : KV kvs vs) (k : κ) : RelO (valV kvs k) (valueAt vs k) := by
  unfold KV at r
  induction r with
  | nil => exact True.intro
  | @cons p q ps qs h t ih =>
    obtain ⟨h1, h2⟩ := h
    by_cases e : p.1 = k
    · have e' : q.1 = k := h1.symm.trans e
      have b : valueAt (q :: qs) k = some q.2 := by simp [valueAt, List.find?_cons, e']
      rw [valV_pos e, b]; exact h2
    · have e' : ¬ q.1 = k := fun z => e (h1.trans z)
      have b : valueAt (q :: qs) k = valueAt qs k := by simp [valueAt, List.find?_cons, e']
      rw [valV_neg e, b]; exact ih
theorem KV.any {kvs : List (κ × V)} {vs : List (κ × Value)} (r : KV kvs vs) (k : κ) : (kvs.any fun kv => decide (kv.1 = k)) = vs.any fun kv => decide (kv.1 = k) := by
  unfold KV at r
  induction r with
  | nil => rfl
  | cons h t ih => rw [List.any_cons, List.any_cons, ih, h.1]
theorem KV.repl {kvs : List (κ × V)} {vs : List (κ × Value)} (r : KV kvs vs) (k : κ) {y : V} {u : Value} (ry : RelV y u) :
    KV (kvs.map fun kv => if kv.1 = k then (kv.1, y) else kv) (vs.map fun kv => if kv.1 = k then (kv.1, u) else kv) := by
  unfold KV at r ⊢
  induction r with
  | nil => exact .nil
  | @cons p q ps qs h t ih =>
    rw [List.map_cons, List.map_cons]
    refine .cons ?_ ih
    obtain ⟨h1, h2⟩ := h
    by_cases e : p.1 = k
    · rw [if_pos e, if_pos (h1.symm.trans e)]; exact ⟨h1, ry⟩
    · rw [if_neg e, if_neg (fun z => e (h1.trans z))]; exact ⟨h1, h2⟩
theorem KV.put {kvs : List (κ × V)} {vs : List (κ × Value)} (r : KV kvs vs) (k : κ) {y : V} {u : Value} (ry : RelV y u) : KV (putK kvs k y) (stored vs k u) := by
  unfold putK stored
  rw [r.any k]
  by_cases e : (vs.any fun kv => decide (kv.1 = k)) = true
  · rw [if_pos e, if_pos e]; exact r.repl k ry
  · rw [if_neg e, if_neg e]; exact Paired.snoc r ⟨rfl, ry⟩
theorem KV.drop {kvs : List (κ × V)} {vs : List (κ × Value)} (r : KV kvs vs) (k : κ) : KV (dropK kvs k) (without vs k) := by
  unfold KV at r ⊢
  unfold dropK without
  induction r with
  | nil => exact .nil
  | @cons p q ps qs h t ih =>
    obtain ⟨h1, h2⟩ := h
    rw [List.filter_cons, List.filter_cons]
    by_cases e : p.1 = k
    · have a : ¬ decide (p.1 ≠ k) = true := by simp [e]
      have b : ¬ decide (q.1 ≠ k) = true := by simp [h1.symm.trans e]
      rw [if_neg a, if_neg b]; exact ih
    · have e' : ¬ q.1 = k := fun z => e (h1.trans z)
      have a : decide (p.1 ≠ k) = true := by simp [e]
      have b : decide (q.1 ≠ k) = true := by simp [e']
      rw [if_pos a, if_pos b]; exact .cons ⟨h1, h2⟩ ih
theorem KV.length {kvs : List (κ × V)} {vs : List (κ × Value)} (r : KV kvs vs) : kvs.length = vs.length := Paired.length r
end
abbrev KT (H : Hp) : List (List Key × V) → List (List Key × Addr × Value) → Prop := Paired fun p q => p.1 = q.1 ∧ H q.2.1 = some (.tup (p.1.map kV)) ∧ RelV p.2 q.2.2
theorem KT.val {H : Hp} {kvs : List (List Key × V)} {xs : List (List Key × Addr × Value)} (r : KT H kvs xs) (k : List Key) : RelO (valV kvs k) ((atKey xs k).map (·.2)) := by
  induction r with
  | nil => exact True.intro
  | @cons p q ps qs h t ih =>
    obtain ⟨h1, _, h2⟩ := h
    by_cases e : p.1 = k
    · have e' : q.1 = k := h1.symm.trans e
      have b : atKey (q :: qs) k = some q.2 := by simp [atKey, List.find?_cons, e']
      rw [valV_pos e, b]; exact h2
    · have e' : ¬ q.1 = k := fun z => e (h1.trans z)
      have b : atKey (q :: qs) k = atKey qs k := by simp [atKey, List.find?_cons, e']
      rw [valV_neg e, b]; exact ih
theorem KT.repl {H : Hp} {kvs : List (List Key × V)} {xs : List (List Key × Addr × Value)} (r : KT H kvs xs) (k : List Key) {y : V} {u : Value} (ry : RelV y u) :
    KT H (kvs.map fun kv => if kv.1 = k then (kv.1, y) else kv) (xs.map (putAt k u)) := by
  induction r with
  | nil => exact .nil
  | @cons p q ps qs h t ih =>
    rw [List.map_cons, List.map_cons]
    refine .cons ?_ ih
    obtain ⟨h1, h2, h3⟩ := h
    unfold putAt
    by_cases e : p.1 = k
    · rw [if_pos e, if_pos (h1.symm.trans e)]; exact ⟨h1, h2, ry⟩
    · rw [if_neg e, if_neg (fun z => e (h1.trans z))]; exact ⟨h1, h2, h3⟩
theorem KT.put {H : Hp} {kvs : List (List Key × V)} {xs : List (List Key × Addr × Value)} (r : KT H kvs xs) (k : List Key) {b : Addr} {y : V} {u : Value} (hb : H b = some (.tup (k.map kV))) (ry : RelV y u) :
    KT H (putK kvs k y) (storedH xs k b u) := by
  have e : (kvs.any fun kv => decide (kv.1 = k)) = (atKey xs k).isSome := by
    rw [valV_any, (r.val k).isSome_eq, Option.isSome_map]
  unfold putK storedH
  rw [e]
  by_cases q : (atKey xs k).isSome = true
  · rw [if_pos q, if_pos q]; exact r.repl k ry
  · rw [if_neg q, if_neg q]; exact Paired.snoc r ⟨rfl, hb, ry⟩
theorem KT.keeps {H H' : Hp} {kvs : List (List Key × V)} {xs : List (List Key × Addr × Value)} (r : KT H kvs xs) (ht : ∀ b ys, H b = some (.tup ys) → H' b = some (.tup ys)) : KT H' kvs xs :=
  Paired.mapP r fun _ _ z => ⟨z.1, ht _ _ z.2.1, z.2.2⟩
section
variable {P : Program} {w : World} {H : Hp} {h : Heap} {a : Addr}
end
def DGet (H : Hp) (a : Addr) (y : V) (r : Option V) : Prop :=
  (∃ kvs k, Rd H a (.dK kvs) ∧ y = kV k ∧ r = valV kvs k) ∨ ∃ kvs k b, Rd H a (.dT kvs) ∧ y = .ref b ∧ H b = some (.tup (k.map kV)) ∧ r = valV kvs k
def DPut (H : Hp) (a : Addr) (y v : V) (H' : Hp) : Prop :=
  (∃ kvs k, H a = some (.dK kvs) ∧ y = kV k ∧ kvs.length < sizeLine ∧ H' = upd H a (.dK (putK kvs k v))) ∨
  ∃ kvs k b, H a = some (.dT kvs) ∧ y = .ref b ∧ H b = some (.tup (k.map kV)) ∧ kvs.length < sizeLine ∧ H' = upd H a (.dT (putK kvs k v))
theorem DGet.k {H : Hp} {a : Addr} {kvs : List (Key × V)} {k : Key} (e : H a = some (.dK kvs)) : DGet H a (kV k) (valV kvs k) := .inl ⟨kvs, k, .inl e, rfl, rfl⟩
theorem DGet.t {H : Hp} {a b : Addr} {kvs : List (List Key × V)} {k : List Key} (e : H a = some (.dT kvs)) (eb : H b = some (.tup (k.map kV))) : DGet H a (.ref b) (valV kvs k) := .inr ⟨kvs, k, b, .inl e, rfl, eb, rfl⟩
theorem DPut.k {H : Hp} {a : Addr} {kvs : List (Key × V)} {k : Key} {v : V} (e : H a = some (.dK kvs)) (hl : kvs.length < sizeLine) : DPut H a (kV k) v (upd H a (.dK (putK kvs k v))) := .inl ⟨kvs, k, e, rfl, hl, rfl⟩
theorem DPut.t {H : Hp} {a b : Addr} {kvs : List (List Key × V)} {k : List Key} {v : V} (e : H a = some (.dT kvs)) (eb : H b = some (.tup (k.map kV))) (hl : kvs.length < sizeLine) :
    DPut H a (.ref b) v (upd H a (.dT (putK kvs k v))) := .inr ⟨kvs, k, b, e, rfl, eb, hl, rfl⟩
section
variable {X : Cx} {pins : List (Addr × Obj)} {σ : St} {H : Hp} {s : Shared} {a : Addr} {y v : V} {u r : Value} {o : Option V} {A : Around} {E : Value → Shared → Prop}
end
section
variable {X : Cx} {pins : List (Addr × Obj)} {σ : St} {H : Hp} {s : Shared} {a : Addr} {kvs : List (Key × V)} {k : Key} {u : Value} {A : Around} {E : Value → Shared → Prop}
end
section
variable {X : Cx} {o i e value : Expr} {pos pos' tpos : Pos} {td ty tv : TE}
end
section
variable {X : Cx} {pos : Pos}
end
section
variable {X : Cx} {pins : List (Addr × Obj)} {σ : St} {H : Hp} {s : Shared} {a : Addr} {y d : V} {u r : Value} {o : Option V} {A : Around} {E : Value → Shared → Prop}
end
section
variable {X : Cx} {o e f : Expr} {apos cpos : Pos} {td ty tx : TE}
end
section
variable {X : Cx} {pins : List (Addr × Obj)} {σ : St} {H : Hp} {s : Shared} {a : Addr} {kvs : List (Key × V)} {A : Around} {E : Value → Shared → Prop}
end
section
variable {X : Cx} {pins : List (Addr × Obj)} {σ : St} {H : Hp} {s : Shared} {a : Addr} {y : V} {u : Value} {A : Around} {E : Value → Shared → Prop}
end
end L2
namespace L2
open PySem PySem.Spec PyProof.Rows
section
variable {prog : Program} {w : World} {A : Around} {E : Value → Shared → Prop}
end
section
variable {X : Cx}
end
end L2
namespace L2
open PySem PySem.Spec PyProof.Rows
section
variable {X : Cx} {pins : List (Addr × Obj)} {σ : St} {H : Hp} {s : Shared} {h' : Heap}
end
section
variable {X : Cx}
end
section
variable {X : Cx} {tg : Expr}
end
section
variable {X : Cx} {tg : Expr}
end
section
variable {prog : Program} {w : World} {A : Around} {E : Value → Shared → Prop} {s : Shared}
end
section
variable {X : Cx} {pins : List (Addr × Obj)} {σ : St} {H : Hp} {s : Shared} {d : Addr} {o : Obj}
end
section
variable {P : Program} {w : World} {K : PySem.W.Frag} {tg : Expr} {d : Addr} {o : Obj} {es : Array DictEntry} {ep : Nat}
end
section
variable {X : Cx} {tg e : Expr} {td : TE} {apos cpos : Pos}
end
end L2
section
namespace Bits
open PySem PyProof.Rows
end Bits
end
section
namespace TL
open PySem PySem.Builtin PySem.Builtin.Str PySem.StrLaws
abbrev tl (x : Str) : List Nat := x.cps.toList
def pre (S l : List Nat) : Bool := l.take S.length == S
def par (S : List Nat) : List Nat → List Nat → Option (List Nat × List Nat)
  | _, [] => none
  | acc, c :: r => if pre S (c :: r) = true then some (acc, (c :: r).drop S.length) else par S (acc ++ [c]) r
end TL
end
namespace L2
open PySem PySem.Spec PyProof.Rows
section
variable {X : Cx} {pins : List (Addr × Obj)} {σ : St} {H : Hp} {s : Shared} {Q : VK}
end
section
variable {X : Cx}
end
section
variable {X : Cx} {o e : Expr} {to te : TE}
end
end L2
namespace L2
open PySem PySem.Spec PyProof.Rows
section
variable {X : Cx}
end
end L2
namespace Att
open PySem PySem.W PySem.Calls PyProof.Rows
theorem ints_of_wellAll {P : Params} {h : Heap} : ∀ (ns : List Int) (vs : List Value), WellAll P h vs (ns.map WData.int) → IntsAre vs ns := by
  intro ns
  induction ns with
  | nil =>
    intro vs w
    rw [List.map_nil] at w
    cases w
    exact .nil
  | cons n ns ih =>
    intro vs w
    rw [List.map_cons] at w
    cases w with
    | cons a b =>
      cases a
      exact .cons _ _ (ih _ b)
theorem script_of {l : OpenLaw} {n : Nat} (hn : l.most = some n) {P : Params} {h : Heap} {args : List WData} {vals : List Value}
    (hpre : l.row.toRowW.claim.pre args = true) (hwl : WellAll P h vals args) :
    ∃ a vs ns, vals = [Value.ref a] ∧ args = [WData.list (ns.map WData.int)] ∧ h.get? a = some { cls := .type "list", data := .seq vs.toArray } ∧ IntsAre vs ns ∧ ns.length ≤ n := by
  have hsh : WShape.hasAll [] args [.list .int] = true := (pre_splitW hpre).1
  have hc : l.pre.holds [] { args := args } = true := (pre_splitW hpre).2
  obtain ⟨d, r, rfl, h1, h2⟩ := hasAllW_cons hsh
  obtain rfl := hasAllW_nil h2
  obtain ⟨xs, rfl, h3⟩ := hasW_list h1
  obtain ⟨ns, rfl⟩ := items_int h3
  have hlen : ns.length ≤ n := by
    unfold OpenLaw.pre at hc
    have h4 : (WTm.not (.lt (.lit (.int (n : Int))) (.len (.arg 0)))).holds [] { args := [.list (ns.map .int)] } = true := by
      have h4 := (holds_andW hc).1
      rw [hn] at h4
      exact h4
    have h5 := condW_of h4 (w_not (w_lt w_lit (w_len_list (w_arg rfl))))
    rw [List.length_map] at h5
    refine Nat.le_of_not_lt fun q => ?_
    have q' : (n : Int) < ((ns.length : Nat) : Int) := by omega
    first
      | (rw [decide_eq_true q'] at h5; exact absurd h5 (by decide))
      | (simp at h5; omega)
  cases hwl with
  | cons w1 w2 =>
    cases w2
    cases w1 with
    | list ho hall => exact ⟨_, _, ns, rfl, rfl, ho, ints_of_wellAll ns _ hall, hlen⟩
theorem post_true (l : OpenLaw) (args : List WData) : l.row.toRowW.claim.post args (.bool true) args = true :=
  postW_of (r := l.row.toRowW) (X := (true == true))
    (show WShape.has [] (.bool true) .bool = true by first | rfl | decide | simp [WShape.has, WShape.arms, WShape.armsAll])
    (show (WTm.eq .res (.lit (.bool true))).value [] { args := args, res := some (.bool true), after := args } = some (.bool (true == true)) from w_eq_bool (w_res rfl) w_lit) rfl
theorem attach_call {l : OpenLaw} {n : Nat} {q : Program} {loose : List Str} {XP : (Str → Option Value) → Heap → Prop} {YP : World → Heap → Prop} {d : DefRec}
    (hn : l.most = some n) (hdf : d.params.defaults = [])
    (call : ∀ (w : World) (s₀ s₁ : Shared) (mg mb : Str → Option Value) (fa : Addr) (o : Obj) (pm cd doc : Value) (a : Addr) (vs : List Value) (ns : List Int),
      Ground q loose [] XP w s₀ mg mb s₁.heap → YP w s₁.heap →
      s₁.heap.get? fa = some o → o.data = .func (docDef d.name d.params d.body d.scope pm cd doc) → s₁.heap.CodeRec cd d.name → mg d.name = some (.ref fa) →
      s₁.heap.get? a = some { cls := .type "list", data := .seq vs.toArray } → IntsAre vs ns → ns.length ≤ n → s₁.gens = #[] →
      codeAny (model l.prog w) callerA (.call (.ref fa) ⟨[.ref a], []⟩) (fun r s' => r = .ok (.ret (.bool true)) ∧ OldK s₁.heap s'.heap ∧ s'.os = s₁.os ∧ AllBare s'.gens) s₁) :
    WalkO q loose XP YP l.row.toRowW d [] (fun f vs => PySem.call f vs) := by
  intro w s₀ s₁ mg mb G Y fa o pm cd doc dV kV ho hd hcd hD hmg hg args vals as hpre hlay hrd hwl hlo
  obtain rfl : dV = .none := Dflts.none hD hdf
  obtain rfl : kV = .none := Dflts.noKw hD
  obtain ⟨a, vs, ns, rfl, rfl, hobj, hints, hlen⟩ := script_of hn hpre hwl
  refine enter_call (codeAny_mono (call w s₀ s₁ mg mb fa o pm cd doc a vs ns G Y ho (fd_plain hd) hcd hmg hobj hints hlen hg) fun r s' hq => ?_)
  obtain ⟨rfl, h2, h3, h4⟩ := hq
  exact ⟨.inl ⟨.bool true, .bool true, [], rfl, fun _ => rfl, .bool true, post_true l _, fun _ => ⟨List.Pairwise.nil, fun _ hm => (nomatch hm)⟩⟩, h2, h3, h4⟩
section
variable {prog : Program} {w : World} {A : Around} {E : Value → Shared → Prop} {s : Shared} {K : Frag}
end
end Att
namespace L2
open PySem PySem.Spec PyProof.Rows
theorem vals_ints : ∀ {vs : List Value} {ns : List Int}, IntsAre vs ns → Vals (ns.map V.int) vs
  | _, _, .nil => .nil
  | _, _, .cons n t h => .cons ⟨t, rfl⟩ (vals_ints h)
end L2
namespace L2
open PySem PySem.Spec PyProof.Rows
end L2
namespace L2
open PySem PySem.Spec PyProof.Rows
def defArgs (s : Stmt) : Arguments := match s with
  | .FunctionDef _ a _ _ _ _ _ _ _ _ => a
  | _ => { posonlyargs := [], args := [], vararg := none, kwonlyargs := [], kw_defaults := [], kwarg := none, defaults := [] }
def defBody (s : Stmt) : List Stmt := match s with
  | .FunctionDef _ _ b _ _ _ _ _ _ _ => b
  | _ => []
def defScope (s : Stmt) : Scope := match s with
  | .FunctionDef _ _ _ _ _ _ sc _ _ _ => sc
  | _ => { kind := .function, names := [], isGenerator := false, isCoroutine := false }
abbrev CX0 : CXT := fun _ _ _ _ _ _ => False
abbrev E0 : XK := fun _ _ _ => False
theorem pass0 {X : Cx} : Passes CX0 X E0 := fun _ _ _ _ _ _ _ h => h.elim
structure Fun (K : PySem.W.Frag) (x qual : Str) (st : Stmt) (f : Addr) (fd : FuncData) : Prop where
  ex : ∃ (oc : Value) (od : Option Addr) (kV doc pm : Value) (an : Option Addr) (cdv ct : Value) (osl : Array (Option Value)),
    fd = PySem.W.fnOf x qual (defArgs st) (defBody st) (defScope st) .none kV doc pm an cdv ct ∧ K.lookup f = some ⟨oc, od, .func fd, osl⟩ ∧ PySem.W.codeIn K cdv qual = true
  kp : PySem.W.keepIn K (.ref f) = true
section
variable {P : Program} {w : World} {K : PySem.W.Frag} {mg : Str → Option Value} {base : Heap}
theorem Fun.ok {x qual : Str} {st : Stmt} {f : Addr} {fd : FuncData} {N ps : List Str} {k : Nat} {sp : Sp} (F : Fun K x qual st f fd) (S : FnScope N ps (defScope st)) (len : ∀ vs H Q E, sp vs H Q E → vs.length = ps.length)
    (hbody : ∀ (cdv : Value) (A : Around) (outer : List Env) (s : Shared) (H : Hp) (vs : List V) (Q : VK) (E : XK), Room k (A.deeper (envOfC qual (defScope st) s.heap.objs.size f cdv)) → sp vs H Q E →
      ∃ t, PSs (cxOf CX0 P w K mg base N qual (defScope st) f cdv A outer s H E).nox (defBody st) t ∧ t { nx := fun _ H' => Q .non H', rt := Q } (start N vs) H) : FnOk P w K mg base CX0 (k + 1) f fd ps sp := by
  obtain ⟨oc, od, kV, doc, pm, an, cdv, ct, osl, rfl, lk, hcd⟩ := F.ex
  refine fn_of lk hcd S len fun A outer s H vs Q E hr hsp => ?_
  obtain ⟨t, h, q⟩ := hbody cdv A outer s H vs Q E hr hsp
  exact ⟨t, h.nox, q⟩
theorem Fun.binds {x qual : Str} {st : Stmt} {f : Addr} {fd : FuncData} {ps : List Str} (F : Fun K x qual st f fd)
    (h : ∀ (kV doc pm : Value) (an : Option Addr) (cdv ct : Value) (us : List Value), us.length = ps.length → bindArgs (PySem.W.fnOf x qual (defArgs st) (defBody st) (defScope st) .none kV doc pm an cdv ct) ⟨us, []⟩ = pure (ps.zip us)) : Binds K fd ps [] := by
  obtain ⟨oc, od, kV, doc, pm, an, cdv, ct, osl, rfl, lk, hcd⟩ := F.ex
  exact .all (h kV doc pm an cdv ct)
theorem fun_mk {x qual : Str} {st : Stmt} {f : Addr} {oc : Value} {od an : Option Addr} {osl : Array (Option Value)} {kV doc pm cdv ct : Value} (l : K.lookup f = some ⟨oc, od, .func (PySem.W.fnOf x qual (defArgs st) (defBody st) (defScope st) .none kV doc pm an cdv ct), osl⟩)
    (c : PySem.W.codeIn K cdv qual = true) (k : PySem.W.keepIn K (.ref f) = true) : Fun K x qual st f (PySem.W.fnOf x qual (defArgs st) (defBody st) (defScope st) .none kV doc pm an cdv ct) := ⟨⟨oc, od, kV, doc, pm, an, cdv, ct, osl, rfl, l, c⟩, k⟩
end
theorem small1000 {n : Nat} (h : n ≤ 1000) : n < sizeLine := Nat.lt_of_le_of_lt h (by decide)
section
variable {X : Cx}
theorem pv (i : Nat) {x : Str} {pos : Pos} (hN : X.N[i]? = some x := by rfl) (hv : Vis X.env.scope x := by first | exact Or.inl rfl | exact Or.inr (Or.inl rfl) | exact Or.inr (Or.inr rfl)) (hd : (x == ("__debug__" : Str)) = false := by decide)
    (hcd : (x == ("__classdict__" : Str)) = false := by decide) : PE X (.Name x pos) (tVar i) := pe_var hN hv hd hcd
end
theorem ite2 {c A B : Prop} [Decidable c] (h1 : c → A) (h2 : ¬ c → B) : if c then A else B := by
  by_cases h : c
  · rw [if_pos h]
    exact h1 h
  · rw [if_neg h]
    exact h2 h
def Same (H H' : Hp) : Prop := ∀ b o, H b = some o → H' b = some o
theorem Same.refl (H : Hp) : Same H H := fun _ _ h => h
theorem Same.trans {H H1 H2 : Hp} (a : Same H H1) (b : Same H1 H2) : Same H H2 := fun c o h => b c o (a c o h)
theorem Same.free {H H' : Hp} (e : Same H H') {l : Addr} (h : H' l = Option.none) : H l = Option.none := by
  cases q : H l with
  | none => rfl
  | some o =>
    rw [e l o q] at h
    cases h
theorem Same.seq {K : PySem.W.Frag} {H H' : Hp} {a : Addr} {xs : List V} (e : Same H H') (h : SqL K H a xs) : SqL K H' a xs := by
  rcases h with (h | ⟨o, h⟩) | h
  · exact .inl (.inl (e _ _ h))
  · exact .inl (.inr ⟨o, e _ _ h⟩)
  · exact .inr h
section
variable {κ : Type} [DecidableEq κ]
end
theorem sum_set : ∀ {l : List Int} {j : Nat} {z y : Int}, l[j]? = some z → (l.set j y).sum = l.sum - z + y
  | [], j, z, y, h => by simp at h
  | a :: r, 0, z, y, h => by
    have e : a = z := Option.some.inj h
    subst e
    show (y :: r).sum = (a :: r).sum - a + y
    rw [List.sum_cons, List.sum_cons]
    omega
  | a :: r, j + 1, z, y, h => by
    have ih := sum_set (l := r) (j := j) (z := z) (y := y) h
    show (a :: r.set j y).sum = (a :: r).sum - z + y
    rw [List.sum_cons, List.sum_cons, ih]
    omega
theorem Same.made {H H1 : Hp} {x dx C : Addr} (nx : H x = Option.none) (nd : H dx = Option.none) (k : ∀ b o, (upd (upd H dx (.own x)) x (.ins C dx [])) b = some o → b ≠ x → H1 b = some o) : Same H H1 := fun b o e =>
  k b o (by rw [upd_ne (ne_of_none e nx), upd_ne (ne_of_none e nd)]; exact e) (ne_of_none e nx)
end L2
set_option Elab.async false
set_option linter.all false
set_option maxRecDepth 100000
namespace L2
open PySem PySem.Spec PyProof.Rows
inductive Kd where
  | int | bool | non | str | tup | lst
  deriving DecidableEq
def Kd.nm : Kd → String
  | .int => "int" | .bool => "bool" | .non => "NoneType" | .str => "str" | .tup => "tuple" | .lst => "list"
def KindV (K : PySem.W.Frag) (H : Hp) : V → Kd → Prop
  | .int _, k => k = .int
  | .bl _, k => k = .bool
  | .non, k => k = .non
  | .str _, k => k = .str
  | .ref p, k => (k = .tup ∧ ∃ xs, SqT K H p xs) ∨ (k = .lst ∧ ∃ xs, SqL K H p xs)
  | _, _ => False
section
variable {X : Cx}
def rSet0 : List V → Hp → VK → Prop := fun vs H Q => vs = [] ∧ ∀ p, H p = none → Q (.ref p) (upd H p (.set (fun _ => false) 0))
theorem call_set0 : CallR X (.type "set") rSet0 := by
  intro pins s σ H xs us Q I r h
  obtain ⟨rfl, q⟩ := h
  rw [r.zero]
  refine call_set_0 fun led => ⟨.ref s.heap.objs.size, _, I.laid (t' := s.toks) (o := .set (fun _ => false) 0) (fun b ob e => Heap.get?_push_of_some _ e) (Nat.le_refl _) ?_, rfl, q _ (I.hok.fresh (Nat.le_refl _))⟩
  exact (Obj.IntSetOf.kind (intSetOf_fresh led) X.prog X.w).setOf (Heap.get?_push_size _ rfl) (by decide)
def rSetAdd : V → List V → Hp → VK → Prop := fun x vs H Q => ∃ p i S n, x = .ref p ∧ vs = [.int i] ∧ H p = some (.set S n) ∧ n + 1 < 4096 ∧
  Q .non (upd H p (.set (fun k => S k || decide (k = i)) (if S i then n else n + 1)))
theorem mt_setadd : MtM X "set.add" rSetAdd := by
  intro pins s σ H x vs v us Q I rx rv h
  obtain ⟨p, i, S, n, rfl, rfl, hp, hn, q⟩ := h
  cases rx
  obtain ⟨u, rfl, t, rfl⟩ := rv.one
  have hS : s.heap.SetOf (intKind X.prog X.w) p S n := I.hok p _ hp
  refine call_set_add (k := i) (intKind_is _ _ _ _) rfl hS hn fun h' sb hS' => ⟨.non, _, I.write (x := p) (e := p) (by rw [hp]; exact trivial) (.inl rfl) (fun b ob hb e => (sb.2 b hb).trans e) ?_ ?_, rfl, q⟩
  · obtain ⟨o, _, _, _, e, _⟩ := hS'; exact ⟨o, e⟩
  · exact hS'
theorem insert_list (its : List Value) (k : Nat) (y : Value) : (its.toArray.extract 0 k).push y ++ its.toArray.extract k = (its.take k ++ y :: its.drop k).toArray := by
  apply Array.ext'
  simp
  rw [List.take_of_length_le (by rw [List.length_drop]; exact Nat.le_refl _)]
def rInsert : V → List V → Hp → VK → Prop := fun x vs H Q => ∃ l xs i y, x = .ref l ∧ vs = [.int i, y] ∧ H l = some (.lst xs) ∧ 0 ≤ i ∧ i ≤ xs.length ∧ xs.length < sizeLine ∧
  Q .non (upd H l (.lst (xs.take i.toNat ++ y :: xs.drop i.toNat)))
theorem mt_insert : MtM X "list.insert" rInsert := by
  intro pins s σ H x vs v us Q I rx rv h
  obtain ⟨l, xs, i, y, rfl, rfl, hH, h0, h1, hz, q⟩ := h
  cases rx
  obtain ⟨u, w', rfl, ⟨t, rfl⟩, ru⟩ := rv.two
  obtain ⟨z, its, n, r, hl, e⟩ := I.lstM hH
  have h63 := line63
  have hfit : ¬ (!Builtin.List.listFitsIndex i) = true := by
    rw [fitsIndex_both (by omega) (by omega)]
    exact Bool.false_ne_true
  refine call_meets F.slot_list_insert ⟨_, e, rfl⟩ F.entry_list_insert (F.args_list_insert_3 _ _ _) (AutoSeq1.list_insert_list_int_val_1 l its.toArray n i t w' hfit (by rw [List.size_toArray]; omega)) ⟨e, ?_⟩
  refine ⟨.non, _, I.lset (its' := its.take i.toNat ++ w' :: its.drop i.toNat) hH e ?_ (Vals.append (r.take _) (.cons ru (r.drop _))) ?_, rfl, q⟩
  · have hk : (if i < 0 then (i + (its.toArray.size : Int)).toNat else min i.toNat its.toArray.size) = i.toNat := by
      rw [if_neg (by omega), List.size_toArray]; omega
    show (its.toArray.extract 0 (if i < 0 then (i + (its.toArray.size : Int)).toNat else min i.toNat its.toArray.size)).push w' ++ its.toArray.extract (if i < 0 then (i + (its.toArray.size : Int)).toNat else min i.toNat its.toArray.size) = _
    rw [hk]
    exact insert_list its i.toNat w'
  · rw [List.length_append, List.length_cons, List.length_take, List.length_drop]
    omega
def rRange1 : List V → Hp → VK → Prop := fun vs H Q => ∃ j : Int, vs = [.int j] ∧ ∀ p, H p = none → Q (.ref p) (upd H p (.rng 0 j))
theorem call_range1 : CallR X (.type "range") rRange1 := by
  intro pins s σ H xs us Q I r h
  obtain ⟨j, rfl, q⟩ := h
  obtain ⟨u, rfl, t, rfl⟩ := r.one
  refine call_range_1 ⟨.ref s.heap.objs.size, _, I.laid (o := .rng 0 j) (fun b ob e => Heap.get?_push_of_some _ e) (Nat.le_refl _) ?_, rfl, q _ (I.hok.fresh (Nat.le_refl _))⟩
  exact ⟨_, _, _, Heap.get?_push_size _ rfl⟩
def intsTo (lo : Int) (n : Nat) : List V := (List.range n).map fun i => V.int (lo + (i : Nat))
theorem intsTo_length (lo : Int) (n : Nat) : (intsTo lo n).length = n := by simp [intsTo]
theorem paired_of_get {α β : Type} {F : α → β → Prop} : ∀ {l₁ : List α} {l₂ : List β}, l₁.length = l₂.length → (∀ (i : Nat) a b, l₁[i]? = some a → l₂[i]? = some b → F a b) → Paired F l₁ l₂
  | [], [], _, _ => .nil
  | [], _ :: _, h, _ => by simp at h
  | _ :: _, [], h, _ => by simp at h
  | a :: l₁, b :: l₂, h, k => .cons (k 0 a b rfl rfl) (paired_of_get (by simpa using h) fun i a b ha hb => k (i + 1) a b (by simpa using ha) (by simpa using hb))
def rListRng : List V → Hp → VK → Prop := fun vs H Q => ∃ p lo hi, vs = [.ref p] ∧ H p = some (.rng lo hi) ∧ -(2 ^ 62) ≤ lo ∧ lo < 2 ^ 62 ∧ -(2 ^ 62) ≤ hi ∧ hi < 2 ^ 62 ∧ (hi - lo).toNat ≤ sizeLine ∧
  ∀ l, H l = none → Q (.ref l) (upd H l (.lst (intsTo lo (hi - lo).toNat)))
theorem call_list_rng (hc : X.calm = true) : CallR X (.type "list") rListRng := by
  intro pins s σ H xs us Q I r h
  obtain ⟨p, lo, hi, rfl, hp, h1, h2, h3, h4, hz, q⟩ := h
  rw [Vals.ref1 r]
  obtain ⟨t, u, v, hr⟩ : ∃ t u v, s.heap.get? p = some { cls := .type "range", data := .fields #[.int lo t, .int hi u, .int 1 v] } := I.hok p _ hp
  have hsz : sizeLine = 16777216 := sizeLine_eq
  refine call_list_range (n := (hi - lo).toNat) (I.ok.hd hc) hr (small_one h1 h2 h3 h4) (by rw [rangeSize_one]; split <;> omega) (by rw [hsz] at hz; exact hz) fun h' tk acc' c' hk hS' hacc => ?_
  obtain ⟨hl, hg⟩ := hacc
  refine ⟨.ref s.heap.objs.size, _, I.laid (o := .lst (intsTo lo (hi - lo).toNat)) hk (Nat.le_refl _) ?_, rfl, q _ (I.hok.fresh (Nat.le_refl _))⟩
  refine ⟨by rw [intsTo_length]; exact hz, acc'.toList, c', ?_, by simpa using hS'⟩
  refine paired_of_get (by rw [intsTo_length]; simp [hl]) fun i a b ha hb => ?_
  obtain ⟨t', e⟩ := hg i b (by simpa using hb)
  have hi' : i < (hi - lo).toNat := by
    have := (List.getElem?_eq_some_iff.mp ha).1
    rwa [intsTo_length] at this
  have ha' : V.int (lo + (i : Nat)) = a := by
    simp only [intsTo, List.getElem?_map, List.getElem?_range hi', Option.map_some] at ha
    exact Option.some.inj ha
  subst ha'
  exact ⟨t', by rw [e, Int.mul_one]⟩
section
variable {prog : Program} {w : World} {A : Around} {E : Value → Shared → Prop} {s : Shared}
open AutoSeq1 (wpAny_loadPart') in
end
theorem op_mulK : OpR X (binaryOp .Mult) (rI IntMulOk fun i j => .int (i * j)) := opI fun _ _ _ _ _ _ _ hc q => mul_int q hc
theorem big60 : IntMulOk (10 ^ 60) (10 ^ 60) := by unfold IntMulOk; decide +kernel
end
end L2
set_option Elab.async false
set_option linter.all false
set_option maxRecDepth 100000
namespace L2
open PySem PySem.Spec PyProof.Rows
structure Fn (P : Program) (w : World) (K : PySem.W.Frag) (mg : Str → Option Value) (base : Heap) (x : Str) (ps : List Str) (k : Nat) (sp : Sp) : Prop where
  ex : ∃ f fd, FnOk P w K mg base CX0 k f fd ps sp ∧ Binds K fd ps [] ∧ PySem.W.keepIn K (.ref f) = true ∧ mg x = some (.ref f)
section
variable {X : Cx} {x : Str} {ps : List Str} {k j : Nat} {sp : Sp} {e : Expr} {es : List Expr} {t : TA} {p pos : Pos}
theorem pe_callF (F : Fn X.prog X.w X.K X.mg X.base x ps k sp) (hr : Room j X.A) (hk : k ≤ j) (ha : PA X (e :: es) t) (hg : Gl X x := by rfl) (hdb : (x == ("__debug__" : Str)) = false := by decide)
    (he : starEach (e :: es) X.env = (false, eval e X.env) :: starEach es X.env := by rfl) (hpl : (backTo pos (starEach es X.env)).any (·.1) = false := by rfl) : PE X (.Call (.Name x p) (e :: es) [] pos) (tCall sp [] E0 t) := by
  obtain ⟨f, fd, G, b, kp, m⟩ := F.ex
  exact pe_call G (hr.mono hk) hg m kp b .nil pass0 ha hdb he hpl
end
section
variable {X : Cx}
end
structure Bi (mg : Str → Option Value) : Prop where
  len_ : mg "len" = none
  range_ : mg "range" = none
  list_ : mg "list" = none
  tuple_ : mg "tuple" = none
  min_ : mg "min" = none
  int_ : mg "int" = none
  bool_ : mg "bool" = none
  isinstance_ : mg "isinstance" = none
  set_ : mg "set" = none
  all_ : mg "all" = none
  enumerate_ : mg "enumerate" = none
theorem bt_len : bootBuiltins "len" = some (.builtin "len") := by decide +kernel
theorem bt_range : bootBuiltins "range" = some (.type "range") := by decide +kernel
theorem bt_list : bootBuiltins "list" = some (.type "list") := by decide +kernel
theorem bt_tuple : bootBuiltins "tuple" = some (.type "tuple") := by decide +kernel
theorem bt_min : bootBuiltins "min" = some (.builtin "min") := by decide +kernel
theorem bt_int : bootBuiltins "int" = some (.type "int") := by decide +kernel
theorem bt_set : bootBuiltins "set" = some (.type "set") := by decide +kernel
theorem bt_sorted : bootBuiltins "sorted" = some (.builtin "sorted") := by decide +kernel
theorem dp_ints {K : PySem.W.Frag} {H : Hp} : ∀ ns : List Int, DpAll K H (ns.map V.int) (ns.map PyData.int)
  | [] => .nil
  | n :: r => .cons (.int n) (dp_ints r)
theorem lay_ints : ∀ ns : List Int, PyData.canLayAll0 (ns.map PyData.int) = true
  | [] => by simp [PyData.canLayAll0]
  | n :: r => by simp [PyData.canLayAll0, PyData.canLay0, lay_ints r]
theorem depth_ints : ∀ ns : List Int, PyData.depthAll (ns.map PyData.int) ≤ 1
  | [] => by simp [PyData.depthAll]
  | n :: r => by have := depth_ints r; simp [PyData.depthAll, PyData.depth]; omega
theorem shaped_ints (ns : List Int) : SeqAt.shaped (.list (ns.map PyData.int)) = true := by
  have := depth_ints ns
  unfold SeqAt.shaped
  rw [Bool.and_eq_true]
  refine ⟨by rw [PyData.canLay0]; exact lay_ints ns, decide_eq_true ?_⟩
  rw [PyData.depth]; omega
section
variable {X : Cx}
def rNeNil (K : PySem.W.Frag) : R2 := fun x y H Q => ∃ (a b : Addr) (ns : List Int), x = .ref a ∧ y = .ref b ∧ SqL K H a (ns.map V.int) ∧ SqL K H b [] ∧ Q (.bl (!ns.isEmpty)) H
theorem op_neNil (hu : X.A.units + 64 < cLine) : OpR X (compareOp .NotEq) (rNeNil X.K) := by
  intro pins s σ H x y v u Q I rx ry h
  obtain ⟨a, b, ns, rfl, rfl, ha, hb, q⟩ := h
  refine op_neD hu pins s σ H _ _ v u Q I rx ry ⟨.list (ns.map PyData.int), .list [], .lst ha (dp_ints ns), .lst hb .nil, shaped_ints ns, shaped_ints [], ?_⟩
  have e : (!PyData.eqv (.list (ns.map PyData.int)) (.list [])) = !ns.isEmpty := by
    cases ns <;> simp [PyData.eqv, PyData.eqvAll]
  rw [e]; exact q
end
end L2
set_option Elab.async false
set_option linter.all false
set_option maxRecDepth 100000
set_option maxHeartbeats 600000
namespace Hs
open PySem L2
def top (i : Nat) : Stmt := PySem.Challenge.pw_halfseams_k07_parts_by_hand.main.body.getD i (.Pass ⟨0, 0, 0, 0⟩)
abbrev s_all_halves : Stmt := top 1
abbrev s_each_once : Stmt := top 2
abbrev s_parts : Stmt := top 4
abbrev s_reached_from : Stmt := top 5
abbrev s__law_beside : Stmt := top 7
abbrev sBag : Stmt := top 8
abbrev sTake : Stmt := top 9
abbrev sSkin : Stmt := top 10
abbrev s__law_parts : Stmt := top 11
abbrev sLaw : Stmt := top 12
theorem itP {c : Bool} {A B : Prop} (h : c = true) (a : A) : if c = true then A else B := by rw [if_pos h]; exact a
theorem itN {c : Bool} {A B : Prop} (h : c = false) (b : B) : if c = true then A else B := by rw [if_neg (by rw [h]; exact Bool.false_ne_true)]; exact b
theorem at0 {α : Type} (a : α) (r : List α) : atI (a :: r) 0 = some a := atI_nat (j := 0) rfl
theorem at1 {α : Type} (a b : α) (r : List α) : atI (a :: b :: r) 1 = some b := atI_nat (j := 1) rfl
theorem atN {α : Type} {xs : List α} {i : Int} {v : α} (h0 : 0 ≤ i) (h : xs[i.toNat]? = some v) : atI xs i = some v := by
  rw [show i = ((i.toNat : Nat) : Int) by omega]; exact atI_nat h
theorem lt63 {n : Nat} (h : n ≤ 1000) : n ≤ sizeLine := Nat.le_of_lt (small1000 h)
section
variable {P : Program} {w : World} {K : PySem.W.Frag} {mg : Str → Option Value} {base : Heap} {f : Addr} {fd : FuncData}
def Only1 (b : Addr) (H H' : Hp) : Prop := ∀ c, c ≠ b → H' c = H c
theorem only1_upd {b : Addr} {H : Hp} {o : HO} : Only1 b H (upd H b o) := fun _ hc => upd_ne hc
def spTake : Sp := fun vs H Q _ => ∃ (b : Addr) (x y many : Int), vs = [.ref b, .int many] ∧ H b = some (.lst [.int x, .int y]) ∧ 0 < many ∧ many < 1073741824 ∧
  ∀ (r : Int) (H' : Hp) (x' y' : Int), 0 ≤ r → r < many → H' b = some (.lst [.int x', .int y']) → Only1 b H H' → Q (.int r) H'
theorem scTake : FnScope ["bag", "many", "found"] ["bag", "many"] (defScope sTake) := ⟨rfl, rfl, rfl, by decide +kernel, rfl, by decide +kernel, by decide +kernel⟩
theorem ok_take (F : Fun K "_law_take" "_law_take" sTake f fd) : FnOk P w K mg base CX0 1 f fd ["bag", "many"] spTake := by
  refine F.ok scTake (fun vs H Q E h => ?_) (fun cdv A outer s H vs Q E hr h => ?_)
  · obtain ⟨b, x, y, many, rfl, _⟩ := h; rfl
  obtain ⟨b, x, y, many, rfl, hb, h0, h1, q⟩ := h
  refine ⟨_, (pss_cons (ps_if (pt_cmpR op_gt (pe_ix ix_list (pv 0) pe_int (fun _ _ => rfl)) pe_int (nomark _))
   (pss_cons (ps_set (i := 2) scTake.nd rfl (Or.inl rfl) (pe_op op_mod (pe_ix ix_list (pv 0) pe_int (fun _ _ => rfl)) (pv 1)))
   (pss_cons (ps_asg (pe_op op_fdiv (pe_ix ix_list (pv 0) pe_int (fun _ _ => rfl)) (pv 1)) (pg_sub (pv 0) pe_int set_list))
   (pss_one (ps_ret (pv 2)))))
   pss_nil)
   (pss_cons (ps_asg (pe_op op_mod (pe_op op_mul (pe_ix ix_list (pv 0) pe_int (fun _ _ => rfl)) pe_int) pe_int) (pg_sub (pv 0) pe_int set_list))
   (pss_one (ps_ret (pe_op op_mod (pe_op op_fdiv (pe_op op_mod (pe_op op_mul (pe_ix ix_list (pv 0) pe_int (fun _ _ => rfl)) (pe_ix ix_list (pv 0) pe_int (fun _ _ => rfl))) pe_int) pe_int) (pv 1)))))), ?_⟩
  refine ⟨_, rfl, b, _, _, _, rfl, rfl, SqL.of hb, at0 _ _, _, _, rfl, rfl, _, rfl, ite2 (fun _ => ?_) (fun _ => ?_)⟩
  · refine ⟨_, rfl, b, _, _, _, rfl, rfl, SqL.of hb, at0 _ _, _, rfl, _, _, rfl, rfl, h0, ?_⟩
    refine ⟨_, rfl, b, _, _, _, rfl, rfl, SqL.of hb, at0 _ _, _, rfl, _, _, rfl, rfl, ⟨h0, h1⟩, _, rfl, b, _, _, 0, rfl, rfl, hb, rfl, ?_⟩
    exact ⟨_, rfl, q _ _ _ _ (Int.emod_nonneg _ (by omega)) (Int.emod_lt_of_pos _ h0) upd_same only1_upd⟩
  · refine ⟨_, rfl, b, _, _, _, rfl, rfl, SqL.of hb, at1 _ _ _, _, _, rfl, rfl, .inr ⟨by decide, by decide⟩, _, _, rfl, rfl, (by show (0 : Int) < 2147483647; decide), _, rfl, b, _, _, 1, rfl, rfl, hb, rfl, ?_⟩
    have z0 : 0 ≤ y * 48271 % 2147483647 := Int.emod_nonneg _ (by decide)
    have z1 : y * 48271 % 2147483647 < 2147483647 := Int.emod_lt_of_pos _ (by decide)
    refine ⟨_, rfl, b, _, _, _, rfl, rfl, SqL.of upd_same, at1 _ _ _, _, rfl, b, _, _, _, rfl, rfl, SqL.of upd_same, at1 _ _ _, _, _, rfl, rfl, .inl ⟨by omega, by omega⟩, _, _, rfl, rfl, (by show (0 : Int) < 2147483629; decide), _, _, rfl, rfl, ⟨by decide, by decide⟩, _, rfl, _, _, rfl, rfl, h0, ?_⟩
    exact q _ _ _ _ (Int.emod_nonneg _ (by omega)) (Int.emod_lt_of_pos _ h0) upd_same only1_upd
def spBag (K : PySem.W.Frag) : Sp := fun vs H Q _ => ∃ (a : Addr) (ns : List Int) (k : Int), vs = [.ref a, .int k] ∧ SqL K H a (ns.map V.int) ∧ ns.length ≤ 63 ∧ 0 ≤ k ∧
  ∀ (p : Addr) (x y : Int), H p = none → Q (.ref p) (upd H p (.lst [.int x, .int y]))
theorem scBag : FnScope ["script", "k", "cell"] ["script", "k"] (defScope sBag) := ⟨rfl, rfl, rfl, by decide +kernel, rfl, by decide +kernel, by decide +kernel⟩
theorem big_pos : (0 : Int) < 10 ^ (60 : Int).toNat * 10 ^ (60 : Int).toNat := by decide +kernel
theorem ok_bag (B : Bi mg) (F : Fun K "_law_bag" "_law_bag" sBag f fd) : FnOk P w K mg base CX0 1 f fd ["script", "k"] (spBag K) := by
  refine F.ok scBag (fun vs H Q E h => ?_) (fun cdv A outer s H vs Q E hr h => ?_)
  · obtain ⟨a, ns, k, rfl, _⟩ := h; rfl
  obtain ⟨a, ns, k, rfl, hS, h63, h0, q⟩ := h
  refine ⟨_, (pss_cons (ps_set (i := 2) scBag.nd rfl (Or.inl rfl) pe_int)
   (pss_cons (ps_if (pt_cmpR op_lt (pv 1) (pe_callB call_len_seq rfl B.len_ bt_len (pa_cons (pv 0) pa_nil)) (nomark _))
   (pss_one (ps_set (i := 2) scBag.nd rfl (Or.inl rfl) (pe_op op_mod (pe_ix ix_list (pv 0) (pv 1) (fun _ _ => rfl)) (pe_op op_mulK (pe_op op_pow pe_int pe_int) (pe_op op_pow pe_int pe_int)))))
   pss_nil)
   (pss_cons (ps_if (pt_cmpR op_lt (pv 2) (pe_op op_pow pe_int pe_int) (nomark _))
   (pss_one (ps_ret (pe_lst (pa_cons pe_int (pa_cons (pe_op op_add pe_int (pe_op op_mod (pe_op op_add (pe_op op_mul (pv 2) pe_int) (pe_op op_mul pe_int (pv 1))) pe_int)) pa_nil)))))
   pss_nil)
   (pss_one (ps_ret (pe_lst (pa_cons (pv 2) (pa_cons (pe_op op_add pe_int (pe_op op_mod (pe_op op_add (pv 2) (pv 1)) pe_int)) pa_nil)))))))), ?_⟩
  have hl : (ns.map V.int).length = ns.length := List.length_map _
  refine ⟨_, rfl, _, rfl, a, _, rfl, .inl hS, _, _, rfl, rfl, _, rfl, ite2 (fun c => ?_) (fun c => ?_)⟩
  · have c' : k < ((ns.map V.int).length : Int) := of_decide_eq_true c
    rw [hl] at c'
    have hk : k.toNat < ns.length := by omega
    refine ⟨_, rfl, _, rfl, a, _, _, .int ns[k.toNat], rfl, rfl, hS, atN h0 (by rw [List.getElem?_map, List.getElem?_eq_getElem hk] <;> rfl), _, _, rfl, rfl, ⟨by decide, by decide, by decide⟩, _, _, rfl, rfl, ⟨by decide, by decide, by decide⟩, _, _, rfl, rfl, big60, _, _, rfl, rfl, big_pos, ?_⟩
    refine ⟨_, rfl, _, _, rfl, rfl, ⟨by decide, by decide, by decide⟩, _, _, rfl, rfl, _, rfl, ite2 (fun c => ?_) (fun c => ?_)⟩
    · refine ⟨_, rfl, _, _, rfl, rfl, .inr ⟨by decide, by decide⟩, _, rfl, _, _, rfl, rfl, .inl ⟨by decide, by decide⟩, _, _, rfl, rfl, _, _, rfl, rfl, (by show (0 : Int) < 2147483646; decide), _, _, rfl, rfl, (by show 2 ≤ sizeLine; decide), fun p hp => q p _ _ hp⟩
    · refine ⟨_, rfl, _, rfl, _, rfl, _, _, rfl, rfl, _, _, rfl, rfl, (by show (0 : Int) < 2147483646; decide), _, _, rfl, rfl, (by show 2 ≤ sizeLine; decide), fun p hp => q p _ _ hp⟩
  · refine ⟨_, rfl, _, _, rfl, rfl, ⟨by decide, by decide, by decide⟩, _, _, rfl, rfl, _, rfl, ite2 (fun c => ?_) (fun c => ?_)⟩
    · refine ⟨_, rfl, _, _, rfl, rfl, .inr ⟨by decide, by decide⟩, _, rfl, _, _, rfl, rfl, .inl ⟨by decide, by decide⟩, _, _, rfl, rfl, _, _, rfl, rfl, (by show (0 : Int) < 2147483646; decide), _, _, rfl, rfl, (by show 2 ≤ sizeLine; decide), fun p hp => q p _ _ hp⟩
    · refine ⟨_, rfl, _, rfl, _, rfl, _, _, rfl, rfl, _, _, rfl, rfl, (by show (0 : Int) < 2147483646; decide), _, _, rfl, rfl, (by show 2 ≤ sizeLine; decide), fun p hp => q p _ _ hp⟩
end
end Hs
set_option Elab.async false
set_option linter.all false
set_option maxRecDepth 100000
set_option maxHeartbeats 600000
namespace Hs
open PySem L2
def mV : Option Int → V
  | none => .non
  | some i => .int i
theorem get_int {on : List Int} {i : Nat} (h : i < on.length) : (on.map V.int)[i]? = some (.int on[i]) := by
  rw [List.getElem?_map, List.getElem?_eq_getElem h] <;> rfl
theorem same_new {H : Hp} {p : Addr} (h : H p = none) (o : HO) : Same H (upd H p o) := fun b u q => by rw [upd_ne (ne_of_none q h)]; exact q
end Hs
set_option linter.all false
namespace Hs
def lk (l : List Int) (x : Int) : Int := l.getD x.toNat 0
theorem lk_get {l : List Int} {x : Int} (h : x.toNat < l.length) : l[x.toNat]? = some (lk l x) := by
  unfold lk; rw [List.getD_eq_getElem?_getD, List.getElem?_eq_getElem h]; rfl
theorem lk_set {l : List Int} {j : Nat} {v x : Int} (h : j < l.length) : lk (l.set j v) x = if x.toNat = j then v else lk l x := by
  unfold lk
  rw [List.getD_eq_getElem?_getD, List.getElem?_set, List.getD_eq_getElem?_getD]
  by_cases e : j = x.toNat
  · rw [if_pos e, if_pos h, if_pos e.symm]; rfl
  · rw [if_neg e, if_neg (fun z => e z.symm)]
structure Ord (n : Nat) (o : List Int) : Prop where
  len : o.length = n
  nd : o.Nodup
  mem : ∀ x : Int, x ∈ o ↔ 0 ≤ x ∧ x < n
theorem Ord.nil : Ord 0 [] := ⟨rfl, List.nodup_nil, fun x => ⟨fun h => (by cases h), fun h => (by omega)⟩⟩
theorem Ord.put {n : Nat} {o : List Int} (h : Ord n o) (r : Nat) : Ord (n + 1) (o.take r ++ (n : Int) :: o.drop r) := by
  have hp : (o.take r ++ (n : Int) :: o.drop r).Perm ((n : Int) :: o) := by
    have := (List.perm_middle (a := (n : Int)) (l₁ := o.take r) (l₂ := o.drop r))
    rwa [List.take_append_drop] at this
  refine ⟨by rw [hp.length_eq, List.length_cons, h.len], hp.nodup_iff.mpr (List.nodup_cons.mpr ⟨fun z => ?_, h.nd⟩), fun x => ?_⟩
  · have := (h.mem _).mp z; omega
  · rw [hp.mem_iff, List.mem_cons, h.mem]; omega
structure Sewn (n : Nat) (done : List Int) (on : List Int) : Prop where
  len : on.length = n
  into : ∀ x ∈ done, lk on x ∈ done
  inj : ∀ x ∈ done, ∀ y ∈ done, lk on x = lk on y → x = y
  sur : ∀ y ∈ done, ∃ x ∈ done, lk on x = y
theorem Sewn.nil {n : Nat} {on : List Int} (h : on.length = n) : Sewn n [] on := ⟨h, (fun x hx => by cases hx), (fun x hx => by cases hx), (fun x hx => by cases hx)⟩
def prv (s j : Nat) : Nat := if j = 0 then s - 1 else j - 1
structure Sewing (n : Nat) (patch : List Int) (on0 : List Int) (i : Nat) (on : List Int) : Prop where
  len : on.length = n
  did : ∀ j, j < i → ∀ x, patch[prv patch.length j]? = some x → ∀ y, patch[j]? = some y → lk on x = y
  out : ∀ x, 0 ≤ x → x ∉ patch → lk on x = lk on0 x
theorem Sewing.start {n : Nat} {patch on0 : List Int} (h : on0.length = n) : Sewing n patch on0 0 on0 := ⟨h, fun j hj => absurd hj (Nat.not_lt_zero _), fun _ _ _ => rfl⟩
theorem nd_at {l : List Int} (hN : l.Nodup) {i j : Nat} {x : Int} (a : l[i]? = some x) (b : l[j]? = some x) : i = j := by
  obtain ⟨h1, e1⟩ := List.getElem?_eq_some_iff.mp a
  obtain ⟨h2, e2⟩ := List.getElem?_eq_some_iff.mp b
  exact (List.getElem_inj hN).mp (e1.trans e2.symm)
theorem prv_inj {s i j : Nat} (hi : i < s) (hj : j < s) (h : prv s i = prv s j) : i = j := by unfold prv at h; split at h <;> split at h <;> omega
theorem prv_lt {s j : Nat} (hj : j < s) : prv s j < s := by unfold prv; split <;> omega
theorem Sewing.turn {n : Nat} {patch on0 on : List Int} {i : Nat} {x y : Int} (S : Sewing n patch on0 i on) (nd : patch.Nodup) (hr : ∀ z ∈ patch, 0 ≤ z ∧ z < n) (hi : i < patch.length) (hx : patch[prv patch.length i]? = some x) (hy : patch[i]? = some y) :
    Sewing n patch on0 (i + 1) (on.set x.toNat y) := by
  have hxm := hr x (List.mem_of_getElem? hx)
  have hxl : x.toNat < on.length := by rw [S.len]; omega
  refine ⟨by rw [List.length_set, S.len], fun j hj u hu v hv => ?_, fun z hz hn => ?_⟩
  · have hum := hr u (List.mem_of_getElem? hu)
    have hjl : j < patch.length := (List.getElem?_eq_some_iff.mp hv).1
    rw [lk_set hxl]
    by_cases e : u.toNat = x.toNat
    · have eu : u = x := by omega
      subst eu
      have := prv_inj hjl hi (nd_at nd hu hx)
      subst this
      rw [if_pos rfl]
      rw [hy] at hv
      exact Option.some.inj hv
    · rw [if_neg e]
      refine S.did j ?_ u hu v hv
      rcases Nat.lt_or_ge j i with h | h
      · exact h
      · have : j = i := by omega
        subst this
        rw [hx] at hu
        exact absurd (congrArg Int.toNat (Option.some.inj hu).symm) e
  · rw [lk_set hxl, if_neg (fun e => hn ?_)]
    · exact S.out z hz hn
    · have : z = x := by omega
      rw [this]; exact List.mem_of_getElem? hx
theorem Sewn.more {n : Nat} {done patch on0 on : List Int} (D : Sewn n done on0) (S : Sewing n patch on0 patch.length on) (nd : (done ++ patch).Nodup) (hr : ∀ z ∈ done ++ patch, 0 ≤ z ∧ z < n) : Sewn n (done ++ patch) on := by
  obtain ⟨nd1, nd2, nd3⟩ := List.nodup_append.mp nd
  have old : ∀ x ∈ done, lk on x = lk on0 x := fun x hx => S.out x (hr x (List.mem_append_left _ hx)).1 fun z => nd3 x hx x z rfl
  have new : ∀ x ∈ patch, ∃ j, j < patch.length ∧ patch[prv patch.length j]? = some x ∧ patch[j]? = some (lk on x) := fun x hx => by
    obtain ⟨k, hk, e⟩ := List.getElem_of_mem hx
    obtain ⟨j, hj, ej⟩ : ∃ j, j < patch.length ∧ prv patch.length j = k := by
      by_cases z : k + 1 = patch.length
      · exact ⟨0, by omega, by unfold prv; rw [if_pos rfl]; omega⟩
      · exact ⟨k + 1, by omega, by unfold prv; rw [if_neg (by omega)]; omega⟩
    have h1 : patch[prv patch.length j]? = some x := by rw [ej, List.getElem?_eq_getElem hk, e]
    have h2 : patch[j]? = some patch[j] := List.getElem?_eq_getElem hj
    refine ⟨j, hj, h1, ?_⟩
    rw [S.did j hj x h1 _ h2]; exact h2
  refine ⟨S.len, fun x hx => ?_, fun x hx y hy e => ?_, fun y hy => ?_⟩
  rotate_left 2
  · rcases List.mem_append.mp hy with h | h
    · obtain ⟨x, hx, e⟩ := D.sur y h
      exact ⟨x, List.mem_append_left _ hx, by rw [old x hx]; exact e⟩
    · obtain ⟨j, hj, e⟩ := List.getElem_of_mem h
      have hpl := prv_lt hj
      have hp : patch[prv patch.length j]? = some patch[prv patch.length j] := List.getElem?_eq_getElem hpl
      exact ⟨patch[prv patch.length j], List.mem_append_right _ (List.getElem_mem _), S.did j hj _ hp y (by rw [List.getElem?_eq_getElem hj, e])⟩
  · rcases List.mem_append.mp hx with h | h
    · rw [old x h]; exact List.mem_append_left _ (D.into x h)
    · obtain ⟨j, _, _, h2⟩ := new x h
      exact List.mem_append_right _ (List.mem_of_getElem? h2)
  · rcases List.mem_append.mp hx with h | h <;> rcases List.mem_append.mp hy with g | g
    · rw [old x h, old y g] at e; exact D.inj x h y g e
    · obtain ⟨j, _, _, h2⟩ := new y g
      rw [old x h] at e
      exact absurd rfl (nd3 _ (D.into x h) _ (e ▸ List.mem_of_getElem? h2))
    · obtain ⟨j, _, _, h2⟩ := new x h
      rw [old y g] at e
      exact absurd rfl (nd3 _ (D.into y g) _ (e ▸ List.mem_of_getElem? h2))
    · obtain ⟨j, _, h1, h2⟩ := new x h
      obtain ⟨k, _, g1, g2⟩ := new y g
      rw [e] at h2
      have := nd_at nd2 h2 g2
      subst this
      rw [h1] at g1
      exact Option.some.inj g1
structure Mated (n : Nat) (ms : List (Option Int)) : Prop where
  len : ms.length = n
  ok : ∀ (h : Nat) (m : Int), ms[h]? = some (some m) → 0 ≤ m ∧ m < n ∧ m ≠ h ∧ ms[m.toNat]? = some (some (h : Int))
structure Waits (n : Nat) (ws : List Int) (ms : List (Option Int)) : Prop where
  nd : ws.Nodup
  rng : ∀ x ∈ ws, 0 ≤ x ∧ x < n
  free : ∀ x ∈ ws, ms[x.toNat]? = some none
theorem Mated.start (n : Nat) : Mated n (List.replicate n none) := ⟨List.length_replicate, fun h m e => by
  rw [List.getElem?_replicate] at e
  split at e
  · cases e
  · cases e⟩
theorem Waits.fewer {n : Nat} {ws vs : List Int} {ms : List (Option Int)} (W : Waits n ws ms) (h : vs.Sublist ws) : Waits n vs ms :=
  ⟨W.nd.sublist h, fun x hx => W.rng x (h.subset hx), fun x hx => W.free x (h.subset hx)⟩
theorem Mated.pair {n : Nat} {ms : List (Option Int)} (M : Mated n ms) {a b : Int} (ha : 0 ≤ a ∧ a < n) (hb : 0 ≤ b ∧ b < n) (ne : a ≠ b) (fa : ms[a.toNat]? = some none) (fb : ms[b.toNat]? = some none) :
    Mated n ((ms.set a.toNat (some b)).set b.toNat (some a)) := by
  have la : a.toNat < ms.length := by rw [M.len]; omega
  have lb : b.toNat < ms.length := by rw [M.len]; omega
  refine ⟨by simp [M.len], fun h m e => ?_⟩
  rw [List.getElem?_set, List.length_set] at e
  split at e
  · rename_i eb
    have em : a = m := Option.some.inj (Option.some.inj e)
    subst em
    refine ⟨ha.1, ha.2, by omega, ?_⟩
    rw [List.getElem?_set, if_neg (by omega), List.getElem?_set, if_pos rfl, if_pos la]
    exact congrArg (fun z => some (some z)) (by omega)
  · rename_i eb
    rw [List.getElem?_set] at e
    split at e
    · rename_i ea
      have em : b = m := Option.some.inj (Option.some.inj e)
      subst em
      refine ⟨hb.1, hb.2, by omega, ?_⟩
      rw [List.getElem?_set, List.length_set, if_pos rfl, if_pos lb]
      exact congrArg (fun z => some (some z)) (by omega)
    · rename_i ea
      obtain ⟨h1, h2, h3, h4⟩ := M.ok h m e
      refine ⟨h1, h2, h3, ?_⟩
      have na : a.toNat ≠ m.toNat := fun z => by rw [← z, fa] at h4; cases h4
      have nb : b.toNat ≠ m.toNat := fun z => by rw [← z, fb] at h4; cases h4
      rw [List.getElem?_set, if_neg nb, List.getElem?_set, if_neg na]; exact h4
theorem Waits.pair {n : Nat} {ws : List Int} {ms : List (Option Int)} (W : Waits n ws ms) {a b : Int} (ha : 0 ≤ a) (hb : 0 ≤ b) (na : a ∉ ws) (nb : b ∉ ws) (x y : Option Int) : Waits n ws ((ms.set a.toNat x).set b.toNat y) :=
  ⟨W.nd, W.rng, fun z hz => by
    have := (W.rng z hz).1
    rw [List.getElem?_set, if_neg (fun e => nb (by rw [show b = z by omega]; exact hz)), List.getElem?_set, if_neg (fun e => na (by rw [show a = z by omega]; exact hz))]
    exact W.free z hz⟩
structure SkinOk (on : List Int) (ms : List (Option Int)) : Prop where
  pos : 1 ≤ on.length
  le : on.length ≤ 400
  len : ms.length = on.length
  rng : ∀ x ∈ on, 0 ≤ x ∧ x < on.length
  nd : on.Nodup
  sur : ∀ y : Int, 0 ≤ y → y < on.length → y ∈ on
  ok : ∀ (h : Nat) (m : Int), ms[h]? = some (some m) → 0 ≤ m ∧ m < on.length ∧ m ≠ h ∧ ms[m.toNat]? = some (some (h : Int))
theorem skin_of {n : Nat} {o on : List Int} {ms : List (Option Int)} (h1 : 1 ≤ n) (h2 : n ≤ 400) (O : Ord n o) (S : Sewn n o on) (M : Mated n ms) : SkinOk on ms := by
  have at' : ∀ i (h : i < on.length), on[i] = lk on (i : Int) := fun i h => by
    unfold lk; simp [List.getD_eq_getElem?_getD, List.getElem?_eq_getElem h]
  have inO : ∀ i, i < on.length → (i : Int) ∈ o := fun i h => (O.mem _).mpr ⟨by omega, by rw [S.len] at h; omega⟩
  refine ⟨by rw [S.len]; exact h1, by rw [S.len]; exact h2, by rw [S.len, M.len], fun x hx => ?_, ?_, fun y h0 h1 => ?_, fun h m e => by rw [S.len]; exact M.ok h m e⟩
  · obtain ⟨i, hi, e⟩ := List.getElem_of_mem hx
    rw [S.len, ← e, at' i hi]
    exact (O.mem _).mp (S.into _ (inO i hi))
  · rw [List.nodup_iff_pairwise_ne, List.pairwise_iff_getElem]
    intro i j hi hj hij e
    rw [at' i hi, at' j hj] at e
    have := S.inj _ (inO i hi) _ (inO j hj) e
    omega
  · rw [S.len] at h1
    obtain ⟨x, hx, e⟩ := S.sur y ((O.mem y).mpr ⟨h0, h1⟩)
    have hx' := (O.mem x).mp hx
    have hl : x.toNat < on.length := by rw [S.len]; omega
    exact List.mem_of_getElem? ((lk_get hl).trans (by rw [e]))
end Hs
set_option Elab.async false
set_option linter.all false
set_option maxRecDepth 100000
set_option maxHeartbeats 4000000
namespace Hs
open PySem L2
def But (b : Addr) (H H' : Hp) : Prop := ∀ c o, c ≠ b → H c = some o → H' c = some o
theorem But.refl (b : Addr) (H : Hp) : But b H H := fun _ _ _ h => h
theorem But.put {b p : Addr} {H H' : Hp} {o : HO} (h : But b H H') (hp : p = b ∨ H p = none) : But b H (upd H' p o) := fun c u hc q => by
  rw [upd_ne (fun z => by
    rcases hp with e | e
    · exact hc (z.trans e)
    · rw [z, e] at q; cases q)]
  exact h c u hc q
theorem But.free {b p : Addr} {H H' : Hp} (h : But b H H') (hp : H' p = none) : p = b ∨ H p = none := by
  by_cases e : p = b
  · exact .inl e
  · right
    cases q : H p with
    | none => rfl
    | some u => rw [h p u e q] at hp; cases hp
theorem But.new {b p : Addr} {H H' : Hp} {o : HO} (h : But b H H') (hp : H' p = none) : But b H (upd H' p o) := h.put (h.free hp)
theorem But.newN {b p : Addr} {H H' : Hp} (h : But b H H') (hp : H' p = none) (hb : H b ≠ none) (hne : p ≠ b) : H p = none := (h.free hp).resolve_left hne
theorem But.one {b : Addr} {H H' H2 : Hp} (h : But b H H') (o : Only1 b H' H2) : But b H H2 := fun c u hc q => (o c hc).trans (h c u hc q)
theorem up {H : Hp} {p a : Addr} {o u : HO} (hp : H p = none) (h : H a = some u) : upd H p o a = some u := by rw [upd_ne (ne_of_none h hp)]; exact h
theorem rep_int (k : Nat) (z : Int) : (List.replicate k [V.int z]).flatten = (List.replicate k z).map V.int := by
  induction k with
  | zero => rfl
  | succ k ih => rw [List.replicate_succ, List.flatten_cons, ih]; rfl
theorem rep_non (k : Nat) : (List.replicate k [V.non]).flatten = (List.replicate k (none : Option Int)).map mV := by
  induction k with
  | zero => rfl
  | succ k ih => rw [List.replicate_succ, List.flatten_cons, ih]; rfl
theorem at_ints {ns : List Int} {i : Int} (h0 : 0 ≤ i) (h : i < ns.length) : ∃ v, v ∈ ns ∧ atI (ns.map V.int) i = some (.int v) := by
  have hk : i.toNat < ns.length := by omega
  exact ⟨ns[i.toNat], List.getElem_mem hk, atN h0 (get_int hk)⟩
theorem cut_take (xs : List V) (i : Int) (h0 : 0 ≤ i) : cutV xs none (some i) = xs.take i.toNat := by
  obtain ⟨j, rfl⟩ : ∃ j : Nat, i = (j : Int) := ⟨i.toNat, by omega⟩
  unfold cutV
  rw [HT.sIx_none, HT.sIx_nat, List.drop_zero, Nat.sub_zero, Int.toNat_natCast]
  by_cases h : j ≤ xs.length
  · rw [Nat.min_eq_left h]
  · rw [Nat.min_eq_right (by omega), List.take_of_length_le (Nat.le_refl _), List.take_of_length_le (by omega)]
theorem cut_drop (xs : List V) (i : Int) (h0 : 0 ≤ i) : cutV xs (some i) none = xs.drop i.toNat := by
  obtain ⟨j, rfl⟩ : ∃ j : Nat, i = (j : Int) := ⟨i.toNat, by omega⟩
  unfold cutV
  rw [HT.sIx_none, HT.sIx_nat, Int.toNat_natCast]
  by_cases h : j ≤ xs.length
  · rw [Nat.min_eq_left h, List.take_of_length_le (by rw [List.length_drop]; exact Nat.le_refl _)]
  · rw [Nat.min_eq_right (by omega), List.drop_of_length_le (Nat.le_refl _), List.drop_of_length_le (by omega)]; simp
theorem at_prv {xs : List Int} {i : Nat} (h : i < xs.length) : ∃ v, xs[prv xs.length i]? = some v ∧ atI (xs.map V.int) ((i : Int) - 1) = some (.int v) := by
  have hp := prv_lt h
  refine ⟨xs[prv xs.length i], List.getElem?_eq_getElem hp, ?_⟩
  unfold atI ixN
  rw [List.length_map]
  by_cases e : i = 0
  · subst e
    have e2 : prv xs.length 0 = xs.length - 1 := rfl
    rw [if_neg (by omega), if_pos (by omega)]
    show (xs.map V.int)[(((0 : Nat) : Int) - 1 + (xs.length : Int)).toNat]? = _
    rw [show (((0 : Nat) : Int) - 1 + (xs.length : Int)).toNat = prv xs.length 0 by rw [e2]; omega]
    exact get_int hp
  · rw [if_pos (by omega), if_pos (by omega)]
    show (xs.map V.int)[((i : Int) - 1).toNat]? = _
    have e2 : prv xs.length i = i - 1 := by unfold prv; rw [if_neg e]
    rw [show ((i : Int) - 1).toNat = prv xs.length i by rw [e2]; omega]
    exact get_int hp
theorem ix_nat {n : Nat} {x : Int} (h0 : 0 ≤ x) (h : x < n) : ixN n x = some x.toNat := by
  unfold ixN; rw [if_pos h0, if_pos h]
theorem set_int (l : List Int) (j : Nat) (y : Int) : (l.map V.int).set j (.int y) = (l.set j y).map V.int := by rw [List.map_set]
theorem set_mV (l : List (Option Int)) (j : Nat) (y : Option Int) : (l.map mV).set j (mV y) = (l.set j y).map mV := by rw [List.map_set]
theorem erase_int : ∀ (l : List Int) (j : Nat), (l.map V.int).eraseIdx j = (l.eraseIdx j).map V.int
  | [], _ => rfl
  | _ :: _, 0 => rfl
  | a :: r, j + 1 => by rw [List.map_cons, List.eraseIdx_cons_succ, List.eraseIdx_cons_succ, List.map_cons, erase_int r j]
theorem nd_erase {l : List Int} (h : l.Nodup) {j : Nat} (hj : j < l.length) : l[j] ∉ l.eraseIdx j := fun m => by
  rw [List.mem_eraseIdx_iff_getElem] at m
  obtain ⟨i, hi, hne, e⟩ := m
  exact hne ((List.getElem_inj h).mp e)
theorem ints_to (n : Nat) : intsTo 0 n = ((List.range n).map fun i : Nat => (i : Int)).map V.int := by
  unfold intsTo
  rw [List.map_map]
  exact List.map_congr_left fun i _ => by show V.int (0 + (i : Int)) = V.int (i : Int); rw [Int.zero_add]
theorem ord_range (n : Nat) : Ord n ((List.range n).map fun i : Nat => (i : Int)) := by
  refine ⟨by simp, ?_, fun x => ?_⟩
  · rw [List.nodup_iff_pairwise_ne, List.pairwise_map]
    exact (List.nodup_range (n := n)).imp fun {a b} h => fun e => h (by omega)
  · rw [List.mem_map]
    constructor
    · rintro ⟨i, hi, rfl⟩; have := List.mem_range.mp hi; omega
    · rintro ⟨h0, h1⟩; exact ⟨x.toNat, List.mem_range.mpr (by omega), by omega⟩
section
variable {P : Program} {w : World} {K : PySem.W.Frag} {mg : Str → Option Value} {base : Heap} {f : Addr} {fd : FuncData}
def spSkin : Sp := fun vs H Q _ => ∃ (b : Addr) (x y most : Int), vs = [.ref b, .int most] ∧ H b = some (.lst [.int x, .int y]) ∧ 1 ≤ most ∧ most ≤ 400 ∧
  ∀ (H' : Hp) (p po pm : Addr) (on : List Int) (ms : List (Option Int)) (x' y' : Int), SkinOk on ms → (on.length : Int) ≤ most → But b H H' → H' b = some (.lst [.int x', .int y']) → H p = none → H po = none → H pm = none →
    H' p = some (.tup [.ref po, .ref pm]) → H' po = some (.tup (on.map V.int)) → H' pm = some (.tup (ms.map mV)) → Q (.ref p) H'
theorem scSkin : FnScope ["bag", "most", "many", "order", "half", "onward", "wide", "left", "mates", "rare", "waiting", "size", "patch", "k", "one", "other"] ["bag", "most"] (defScope sSkin) := ⟨rfl, rfl, rfl, by decide +kernel, rfl, by decide +kernel, by decide +kernel⟩
theorem ok_skin (B : Bi mg) (FT : Fn P w K mg base "_law_take" ["bag", "many"] 1 spTake) (F : Fun K "_law_skin" "_law_skin" sSkin f fd) : FnOk P w K mg base CX0 2 f fd ["bag", "most"] spSkin := by
  refine F.ok scSkin (fun vs H Q E h => ?_) (fun cdv A outer s H vs Q E hr h => ?_)
  · obtain ⟨b, x, y, most, rfl, _⟩ := h; rfl
  obtain ⟨b, x, y, most, rfl, hb, hm1, hm2, q⟩ := h
  refine ⟨_, (pss_cons (ps_set (i := 2) scSkin.nd rfl (Or.inl rfl) (pe_op op_add pe_int (pe_callF FT hr (by decide) (pa_cons (pv 0) (pa_cons (pv 1) pa_nil)))))
   (pss_cons (ps_set (i := 3) scSkin.nd rfl (Or.inl rfl) (pe_lst pa_nil))
   (pss_cons (ps_for PassesOwn.never rfl (pi_range1 rfl B.range_ (pa_cons (pv 2) pa_nil)) (pg_name (i := 4) scSkin.nd rfl (Or.inl rfl))
   (pss_one (ps_expr (pe_bm PySem.F.plainAttrs_list PySem.F.slot_list_insert PySem.F.type_list_insert mt_insert (pv 3) (pa_cons (pe_callF FT hr (by decide) (pa_cons (pv 0) (pa_cons (pe_op op_add (pv 4) pe_int) pa_nil))) (pa_cons (pv 4) pa_nil))))))
   (pss_cons (ps_set (i := 5) scSkin.nd rfl (Or.inl rfl) (pe_op op_rep (pe_lst (pa_cons pe_int pa_nil)) (pv 2)))
   (pss_cons (ps_set (i := 6) scSkin.nd rfl (Or.inl rfl) (pe_ix ix_list (pe_lst (pa_cons (pe_op op_add pe_int (pe_callF FT hr (by decide) (pa_cons (pv 0) (pa_cons pe_int pa_nil)))) (pa_cons pe_int (pa_cons (pv 2) pa_nil)))) (pe_callF FT hr (by decide) (pa_cons (pv 0) (pa_cons pe_int pa_nil))) (fun _ _ => rfl)))
   (pss_cons (ps_set (i := 7) scSkin.nd rfl (Or.inl rfl) (pe_callTy call_list_of rfl B.list_ bt_list (pa_cons (pv 3) pa_nil)))
   (pss_cons (ps_while PassesOwn.never (pt_cmpR (op_neNil hr.units) (pv 7) (pe_lst pa_nil) (nomark _))
   (pss_cons (ps_set (i := 11) scSkin.nd rfl (Or.inl rfl) (pe_callB (call_min2 rfl) rfl B.min_ bt_min (pa_cons (pe_callB call_len_seq rfl B.len_ bt_len (pa_cons (pv 7) pa_nil)) (pa_cons (pe_ix ix_list (pe_lst (pa_cons (pv 6) (pa_cons (pe_op op_add pe_int (pe_callF FT hr (by decide) (pa_cons (pv 0) (pa_cons (pv 6) pa_nil)))) pa_nil))) (pe_callF FT hr (by decide) (pa_cons (pv 0) (pa_cons pe_int pa_nil))) (fun _ _ => rfl)) pa_nil))))
   (pss_cons (ps_set (i := 12) scSkin.nd rfl (Or.inl rfl) (pe_slice sl_list (pv 7) po_none (po_some (pv 11))))
   (pss_cons (ps_set (i := 7) scSkin.nd rfl (Or.inl rfl) (pe_slice sl_list (pv 7) (po_some (pv 11)) po_none))
   (pss_one (ps_for PassesOwn.never rfl (pi_range1 rfl B.range_ (pa_cons (pv 11) pa_nil)) (pg_name (i := 13) scSkin.nd rfl (Or.inl rfl))
   (pss_one (ps_asg (pe_ix ix_list (pv 12) (pv 13) (fun _ _ => rfl)) (pg_sub (pv 5) (pe_ix ix_list (pv 12) (pe_op op_sub (pv 13) pe_int) (fun _ _ => rfl)) set_list)))))))))
   (pss_cons (ps_set (i := 8) scSkin.nd rfl (Or.inl rfl) (pe_op op_rep (pe_lst (pa_cons pe_non pa_nil)) (pv 2)))
   (pss_cons (ps_set (i := 9) scSkin.nd rfl (Or.inl rfl) (pe_ix ix_list (pe_lst (pa_cons pe_int (pa_cons pe_int (pa_cons pe_int pa_nil)))) (pe_callF FT hr (by decide) (pa_cons (pv 0) (pa_cons pe_int pa_nil))) (fun _ _ => rfl)))
   (pss_cons (ps_set (i := 10) scSkin.nd rfl (Or.inl rfl) (pe_callTy (call_list_rng rfl) rfl B.list_ bt_list (pa_cons (pe_callTy call_range1 rfl B.range_ bt_range (pa_cons (pv 2) pa_nil)) pa_nil)))
   (pss_cons (ps_while PassesOwn.never (pt_cmpR op_gt (pe_callB call_len_seq rfl B.len_ bt_len (pa_cons (pv 10) pa_nil)) pe_int (nomark _))
   (pss_cons (ps_set (i := 14) scSkin.nd rfl (Or.inl rfl) (pe_bm PySem.F.plainAttrs_list PySem.F.slot_list_pop PySem.F.type_list_pop mt_popAt (pv 10) (pa_cons (pe_callF FT hr (by decide) (pa_cons (pv 0) (pa_cons (pe_callB call_len_seq rfl B.len_ bt_len (pa_cons (pv 10) pa_nil)) pa_nil))) pa_nil)))
   (pss_cons (ps_set (i := 15) scSkin.nd rfl (Or.inl rfl) (pe_bm PySem.F.plainAttrs_list PySem.F.slot_list_pop PySem.F.type_list_pop mt_popAt (pv 10) (pa_cons (pe_callF FT hr (by decide) (pa_cons (pv 0) (pa_cons (pe_callB call_len_seq rfl B.len_ bt_len (pa_cons (pv 10) pa_nil)) pa_nil))) pa_nil)))
   (pss_one (ps_if (pt_cmpR op_gt (pe_callF FT hr (by decide) (pa_cons (pv 0) (pa_cons (pv 9) pa_nil))) pe_int (nomark _))
   (pss_cons (ps_asg (pv 15) (pg_sub (pv 8) (pv 14) set_list))
   (pss_one (ps_asg (pv 14) (pg_sub (pv 8) (pv 15) set_list))))
   pss_nil)))))
   (pss_one (ps_ret (pe_tup (pa_cons (pe_callTy call_tuple_of rfl B.tuple_ bt_tuple (pa_cons (pv 5) pa_nil)) (pa_cons (pe_callTy call_tuple_of rfl B.tuple_ bt_tuple (pa_cons (pv 8) pa_nil)) pa_nil)))))))))))))))), ?_⟩
  have hbn : H b ≠ none := by rw [hb]; exact fun z => nomatch z
  refine ⟨_, rfl, _, rfl, b, x, y, most, rfl, hb, by omega, by omega, fun r H1 x1 y1 hr0 hr1 hb1 o1 => ⟨_, _, rfl, rfl, ?_⟩⟩
  obtain ⟨n, hn⟩ : ∃ n : Nat, (1 : Int) + r = (n : Int) := ⟨(1 + r).toNat, by omega⟩
  change gName 2 (V.int (1 + r)) _ _ _
  rw [hn]
  have B1 : But b H H1 := (But.refl b H).one o1
  refine ⟨(by show 0 ≤ sizeLine; decide), fun od hod => ?_⟩
  have nod : od ≠ b := (ne_of_none hb1 hod).symm
  have fod : H od = none := B1.newN hod hbn nod
  refine ⟨_, rfl, (n : Int), rfl, by omega, by omega, for_range (lo := 0) (n := (n : Int).toNat)
    (fun i σ H2 => ∃ (v4 : Option V) (o : List Int) (x' y' : Int), σ = [some (.ref b), some (.int most), some (.int (n : Int)), some (.ref od), v4, none, none, none, none, none, none, none, none, none, none, none] ∧
      But b H H2 ∧ H2 b = some (.lst [.int x', .int y']) ∧ H2 od = some (.lst (o.map V.int)) ∧ Ord i o)
    ⟨none, [], x1, y1, rfl, B1.new hod, by rw [upd_ne nod.symm]; exact hb1, upd_same, Ord.nil⟩ ?_ ?_⟩
  · rintro i σ H2 hi ⟨v4, o, x', y', rfl, B2, hb2, ho2, O⟩
    rw [Int.zero_add]
    have ol := O.len
    refine ⟨_, rfl, .inl ⟨rfl, _, SqL.of ho2⟩, _, rfl, _, rfl, _, _, rfl, rfl, b, x', y', _, rfl, hb2, by omega, by omega, fun r2 H3 x2 y2 h20 h21 hb3 o3 => ?_⟩
    have ho3 : H3 od = some (.lst (o.map V.int)) := (o3 od nod).trans ho2
    refine ⟨_, rfl, od, _, r2, _, rfl, rfl, ho3, h20, by rw [List.length_map, ol]; omega, small1000 (by rw [List.length_map, ol]; omega), ?_⟩
    refine ⟨_, o.take r2.toNat ++ (i : Int) :: o.drop r2.toNat, x2, y2, rfl, (B2.one o3).put (.inr fod), ?_, ?_, O.put _⟩
    · rw [upd_ne nod.symm]; exact hb3
    · rw [upd_same, List.map_append, List.map_cons, List.map_take, List.map_drop]
  rintro σ H2 ⟨v4, o, x2, y2, rfl, B2, hb2, ho2, O⟩
  have en : (n : Int).toNat = n := Int.toNat_natCast n
  rw [en] at O
  refine ⟨(by show 1 ≤ sizeLine; decide), fun p1 hp1 => ?_⟩
  refine ⟨_, rfl, p1, (n : Int), _, rfl, rfl, upd_same, by omega, by omega, (by show 1 * (n : Int).toNat ≤ sizeLine; exact lt63 (by omega)), fun nd hnd => ?_⟩
  have hb3 := up hp1 hb2 (o := .lst [.int 0])
  have ho3 := up hp1 ho2 (o := .lst [.int 0])
  have B3 := B2.new hp1 (o := .lst [.int 0])
  have nnd : nd ≠ b := (ne_of_none hb3 hnd).symm
  have fnd : H nd = none := B3.newN hnd hbn nnd
  have ndo : nd ≠ od := (ne_of_none ho3 hnd).symm
  rw [rep_int, en]
  have B4 := B3.new hnd (o := .lst ((List.replicate n 0).map V.int))
  have hb4 := up hnd hb3 (o := .lst ((List.replicate n 0).map V.int))
  have ho4 := up hnd ho3 (o := .lst ((List.replicate n 0).map V.int))
  refine ⟨_, rfl, b, x2, y2, 6, rfl, hb4, by decide, by decide, fun r3 H5 x3 y3 h30 h31 hb5 o5 => ⟨_, _, rfl, rfl, _, rfl, (by show 3 ≤ sizeLine; decide), fun p2 hp2 => ?_⟩⟩
  have ho5 := (o5 od nod).trans ho4
  have hn5 := (o5 nd nnd).trans (upd_same (o := .lst ((List.replicate n 0).map V.int)))
  have B5 := (B4.one o5).new hp2 (o := .lst ([1 + r3, 3, (n : Int)].map V.int))
  refine ⟨_, rfl, b, x3, y3, 3, rfl, up hp2 hb5, by decide, by decide, fun r4 H6 x4 y4 h40 h41 hb6 o6 => ?_⟩
  obtain ⟨wide, hw, hwa⟩ := at_ints (ns := [1 + r3, 3, (n : Int)]) h40 (by show r4 < 3; omega)
  refine ⟨p2, [1 + r3, 3, (n : Int)].map V.int, r4, .int wide, rfl, rfl, SqL.of ((o6 p2 (ne_of_none hb5 hp2).symm).trans upd_same), hwa, ?_⟩
  have hw1 : 1 ≤ wide ∧ wide ≤ 400 := by
    have : wide = 1 + r3 ∨ wide = 3 ∨ wide = (n : Int) := by simpa using hw
    omega
  have B6 := B5.one o6
  have ho6 := (o6 od nod).trans (up hp2 ho5)
  have hn6 := (o6 nd nnd).trans (up hp2 hn5)
  refine ⟨_, rfl, od, _, rfl, .inl (SqL.of ho6), fun lf0 hlf0 => ?_⟩
  have B7 := B6.new hlf0 (o := .lst (o.map V.int))
  refine ⟨fun m σ H7 => ∃ (lf : Addr) (left done onw : List Int) (v11 v12 v13 : Option V) (x' y' : Int), m = left.length ∧
      σ = [some (.ref b), some (.int most), some (.int (n : Int)), some (.ref od), v4, some (.ref nd), some (.int wide), some (.ref lf), none, none, none, v11, v12, v13, none, none] ∧
      But b H H7 ∧ H7 b = some (.lst [.int x', .int y']) ∧ H7 lf = some (.lst (left.map V.int)) ∧ H7 nd = some (.lst (onw.map V.int)) ∧ lf ≠ b ∧ lf ≠ nd ∧ o = done ++ left ∧ Sewn n done onw,
    ⟨_, lf0, o, [], List.replicate n 0, none, none, none, x4, y4, rfl, rfl, B7, up hlf0 hb6, upd_same, up hlf0 hn6, (ne_of_none hb6 hlf0).symm, (ne_of_none hn6 hlf0).symm, rfl, Sewn.nil List.length_replicate⟩, ?_⟩
  · rintro m σ H7 ⟨lf, left, done, onw, v11, v12, v13, x7, y7, rfl, rfl, B7, hb7, hl7, hn7, nlb, nln, eo, S⟩
    have hll : left.length ≤ n := by
      have := congrArg List.length eo
      rw [O.len, List.length_append] at this; omega
    refine ⟨_, rfl, (by show 0 ≤ sizeLine; decide), fun e1 he1 => ⟨lf, e1, left, rfl, rfl, SqL.of (up he1 hl7), SqL.of upd_same, _, rfl, ite2 (fun c => ?_) (fun c => ?_)⟩⟩
    · have hne : left ≠ [] := fun z => by rw [z] at c; cases c
      have hpos : 0 < left.length := List.length_pos_iff.mpr hne
      have B8 := B7.new he1 (o := .lst [])
      have hb8 := up he1 hb7 (o := .lst [])
      have hl8 := up he1 hl7 (o := .lst [])
      have hn8 := up he1 hn7 (o := .lst [])
      refine ⟨_, fun _ _ z => z, ?_⟩
      refine ⟨_, rfl, lf, _, rfl, .inl (SqL.of hl8), _, rfl, _, rfl, _, rfl, b, x7, y7, wide, rfl, hb8, by omega, by omega, fun r9 H9 x9 y9 h90 h91 hb9 o9 => ⟨_, _, rfl, rfl, (by show 2 ≤ sizeLine; decide), fun p3 hp3 => ?_⟩⟩
      refine ⟨_, rfl, b, x9, y9, 2, rfl, up hp3 hb9, by decide, by decide, fun r10 H10 x10 y10 h100 h101 hb10 o10 => ?_⟩
      obtain ⟨sz, hs, hsa⟩ := at_ints (ns := [wide, 1 + r9]) h100 (by show r10 < 2; omega)
      refine ⟨p3, [wide, 1 + r9].map V.int, r10, .int sz, rfl, rfl, SqL.of ((o10 p3 (ne_of_none hb9 hp3).symm).trans upd_same), hsa, _, _, rfl, ?_⟩
      have hs1 : 1 ≤ sz := by
        have : sz = wide ∨ sz = 1 + r9 := by simpa using hs
        omega
      obtain ⟨k, hk⟩ : ∃ k : Nat, (if sz < ((left.map V.int).length : Int) then sz else ((left.map V.int).length : Int)) = (k : Int) := ⟨(if sz < ((left.map V.int).length : Int) then sz else ((left.map V.int).length : Int)).toNat, by split <;> omega⟩
      have hk1 : 1 ≤ k ∧ k ≤ left.length := by rw [List.length_map] at hk; split at hk <;> omega
      rw [hk]
      have B10 := ((B8.one o9).new hp3 (o := .lst ([wide, 1 + r9].map V.int))).one o10
      have hl10 := (o10 lf nlb).trans (up hp3 ((o9 lf nlb).trans hl8) (o := .lst ([wide, 1 + r9].map V.int)))
      have hn10 := (o10 nd nnd).trans (up hp3 ((o9 nd nnd).trans hn8) (o := .lst ([wide, 1 + r9].map V.int)))
      refine ⟨_, rfl, _, rfl, _, rfl, lf, _, rfl, SqL.of hl10, fun pt hpt => ?_⟩
      rw [cut_take _ _ (by omega), Int.toNat_natCast, ← List.map_take]
      refine ⟨_, rfl, _, rfl, _, rfl, lf, _, rfl, SqL.of (up hpt hl10), fun l2 hl2 => ?_⟩
      rw [cut_drop _ _ (by omega), Int.toNat_natCast, ← List.map_drop]
      have ptl : (left.take k).length = k := by rw [List.length_take]; omega
      have B11 := (B10.new hpt (o := .lst ((left.take k).map V.int))).new hl2 (o := .lst ((left.drop k).map V.int))
      have npt : pt ≠ nd := (ne_of_none hn10 hpt).symm
      have npb : pt ≠ b := (ne_of_none hb10 hpt).symm
      have hpt0 := upd_same (H := H10) (a := pt) (o := .lst ((left.take k).map V.int))
      have nl2d : l2 ≠ nd := (ne_of_none (up hpt hn10) hl2).symm
      have ndo2 : (done ++ left.take k ++ left.drop k).Nodup := by rw [List.append_assoc, List.take_append_drop, ← eo]; exact O.nd
      have ndo1 : (done ++ left.take k).Nodup := (List.nodup_append.mp ndo2).1
      have rngo : ∀ z ∈ done ++ left.take k, 0 ≤ z ∧ z < n := fun z hz => (O.mem z).mp (by
        rw [eo]
        rcases List.mem_append.mp hz with h | h
        · exact List.mem_append_left _ h
        · exact List.mem_append_right _ (List.mem_of_mem_take h))
      refine ⟨_, rfl, (k : Int), rfl, by omega, by omega, for_range (lo := 0) (n := (k : Int).toNat)
        (fun i σ H12 => ∃ (onw2 : List Int) (v13 : Option V), σ = [some (.ref b), some (.int most), some (.int (n : Int)), some (.ref od), v4, some (.ref nd), some (.int wide), some (.ref l2), none, none, none, some (.int (k : Int)), some (.ref pt), v13, none, none] ∧
          But b H H12 ∧ H12 b = some (.lst [.int x10, .int y10]) ∧ H12 l2 = some (.lst ((left.drop k).map V.int)) ∧ H12 pt = some (.lst ((left.take k).map V.int)) ∧ H12 nd = some (.lst (onw2.map V.int)) ∧ Sewing n (left.take k) onw i onw2)
        ⟨onw, v13, rfl, B11, up hl2 (up hpt hb10), upd_same, up hl2 hpt0, up hl2 (up hpt hn10), Sewing.start S.len⟩ ?_ ?_⟩
      · rintro i σ H12 hi ⟨onw2, v13', rfl, B12, hb12, hl12, hp12, hn12, T⟩
        rw [Int.zero_add]
        have hi' : i < (left.take k).length := by rw [ptl]; omega
        obtain ⟨u, hu, hua⟩ := at_prv hi'
        have hum := rngo u (List.mem_append_right _ (List.mem_of_getElem? hu))
        have hyi : (left.take k)[i]? = some (left.take k)[i] := List.getElem?_eq_getElem hi'
        refine ⟨_, rfl, _, rfl, pt, _, _, _, rfl, rfl, SqL.of hp12, atI_nat (get_int hi'), _, rfl, _, rfl, _, rfl, _, _, rfl, rfl, pt, _, _, _, rfl, rfl, SqL.of hp12, hua, nd, _, _, _, rfl, rfl, hn12, ix_nat hum.1 (by rw [List.length_map, T.len]; exact hum.2), ?_⟩
        rw [set_int]
        refine ⟨onw2.set u.toNat (left.take k)[i], _, rfl, B12.put (.inr fnd), ?_, ?_, ?_, upd_same, T.turn (List.nodup_append.mp ndo1).2.1 (fun z hz => rngo z (List.mem_append_right _ hz)) hi' hu hyi⟩
        · rw [upd_ne nnd.symm]; exact hb12
        · rw [upd_ne nl2d]; exact hl12
        · rw [upd_ne npt]; exact hp12
      · rintro σ H12 ⟨onw2, v13', rfl, B12, hb12, hl12, hp12, hn12, T⟩
        have T' : Sewing n (left.take k) onw (left.take k).length onw2 := by
          rw [ptl]; rw [Int.toNat_natCast] at T; exact T
        refine ⟨_, ?_, l2, left.drop k, done ++ left.take k, onw2, _, _, v13', x10, y10, rfl, rfl, B12, hb12, hl12, hn12, ?_, nl2d, ?_, S.more T' ndo1 rngo⟩
        · rw [List.length_drop]; omega
        · exact (ne_of_none (up hpt hb10) hl2).symm
        · rw [List.append_assoc, List.take_append_drop]; exact eo
    · have hnil : left = [] := by
        cases left with
        | nil => rfl
        | cons z r => exact absurd rfl c
      subst hnil
      rw [List.append_nil] at eo
      subst eo
      have B8 := B7.new he1 (o := .lst [])
      have hb8 := up he1 hb7 (o := .lst [])
      have hn8 := up he1 hn7 (o := .lst [])
      refine ⟨(by show 1 ≤ sizeLine; decide), fun p4 hp4 => ?_⟩
      refine ⟨_, rfl, p4, (n : Int), _, rfl, rfl, upd_same, by omega, by omega, (by show 1 * (n : Int).toNat ≤ sizeLine; exact lt63 (by omega)), fun md hmd => ?_⟩
      rw [rep_non, en]
      have hb9 := up hp4 hb8 (o := .lst [.non])
      have hn9 := up hp4 hn8 (o := .lst [.non])
      have B9 := B8.new hp4 (o := .lst [.non])
      have nmb : md ≠ b := (ne_of_none hb9 hmd).symm
      have nmd : md ≠ nd := (ne_of_none hn9 hmd).symm
      have fmd : H md = none := B9.newN hmd hbn nmb
      have hb10 := up hmd hb9 (o := .lst ((List.replicate n none).map mV))
      have hn10 := up hmd hn9 (o := .lst ((List.replicate n none).map mV))
      have B10 := B9.new hmd (o := .lst ((List.replicate n none).map mV))
      refine ⟨(by show 3 ≤ sizeLine; decide), fun p5 hp5 => ?_⟩
      refine ⟨_, rfl, b, x7, y7, 3, rfl, up hp5 hb10, by decide, by decide, fun r11 H11 x11 y11 h110 h111 hb11 o11 => ?_⟩
      obtain ⟨rare, hr', hra⟩ := at_ints (ns := [2, 5, 99]) h110 (by show r11 < 3; omega)
      have hr1 : 2 ≤ rare ∧ rare ≤ 99 := by
        have : rare = 2 ∨ rare = 5 ∨ rare = 99 := by simpa using hr'
        omega
      refine ⟨p5, [2, 5, 99].map V.int, r11, .int rare, rfl, rfl, SqL.of ((o11 p5 (ne_of_none hb10 hp5).symm).trans upd_same), hra, ?_⟩
      have hn11 := (o11 nd nnd).trans (up hp5 hn10 (o := .lst ([2, 5, 99].map V.int)))
      have hm11 := (o11 md nmb).trans (up hp5 upd_same (o := .lst ([2, 5, 99].map V.int)))
      have B11 := (B10.new hp5 (o := .lst ([2, 5, 99].map V.int))).one o11
      refine ⟨_, rfl, (n : Int), rfl, fun rg hrg => ⟨rg, 0, (n : Int), rfl, upd_same, by decide, by decide, by omega, by omega, lt63 (by omega), fun wt hwt => ?_⟩⟩
      rw [show ((n : Int) - 0).toNat = n by omega, ints_to]
      have B12 := (B11.new hrg (o := .rng 0 (n : Int))).new hwt (o := .lst (((List.range n).map fun i : Nat => (i : Int)).map V.int))
      have W0 := ord_range n
      refine ⟨fun m σ H12 => ∃ (ws : List Int) (ms : List (Option Int)) (v14 v15 : Option V) (x' y' : Int), m = ws.length ∧ ws.length ≤ n ∧
          σ = [some (.ref b), some (.int most), some (.int (n : Int)), some (.ref od), v4, some (.ref nd), some (.int wide), some (.ref lf), some (.ref md), some (.int rare), some (.ref wt), v11, v12, v13, v14, v15] ∧
          But b H H12 ∧ H12 b = some (.lst [.int x', .int y']) ∧ H12 nd = some (.lst (onw.map V.int)) ∧ H12 md = some (.lst (ms.map mV)) ∧ H12 wt = some (.lst (ws.map V.int)) ∧ Mated n ms ∧ Waits n ws ms,
        ⟨_, (List.range n).map fun i : Nat => (i : Int), List.replicate n none, none, none, x11, y11, rfl, Nat.le_of_eq W0.len, rfl, B12, up hwt (up hrg hb11), up hwt (up hrg hn11), up hwt (up hrg hm11), upd_same, Mated.start n,
          W0.nd, fun z hz => (W0.mem z).mp hz, fun z hz => by
            have := (W0.mem z).mp hz
            rw [List.getElem?_replicate, if_pos (by omega)]⟩, ?_⟩
      have nwb : wt ≠ b := (ne_of_none (up hrg hb11) hwt).symm
      have nwd : wt ≠ nd := (ne_of_none (up hrg hn11) hwt).symm
      have nwm : wt ≠ md := (ne_of_none (up hrg hm11) hwt).symm
      have fwt : H wt = none := (B11.new hrg (o := .rng 0 (n : Int))).newN hwt hbn nwb
      rintro m σ H12 ⟨ws, ms, v14, v15, x12, y12, rfl, wlen, rfl, B12, hb12, hn12, hm12, hw12, M, W⟩
      refine ⟨_, rfl, wt, _, rfl, .inl (SqL.of hw12), _, _, rfl, rfl, _, rfl, ite2 (fun c => ?_) (fun c => ?_)⟩
      · have c' : 1 < ws.length := by
          have := of_decide_eq_true c
          rw [List.length_map] at this; omega
        refine ⟨_, fun _ _ z => z, ?_⟩
        refine ⟨_, rfl, .inl ⟨rfl, _, SqL.of hw12⟩, _, rfl, _, rfl, wt, _, rfl, .inl (SqL.of hw12), b, x12, y12, _, rfl, hb12, by rw [List.length_map]; omega, by rw [List.length_map]; omega, fun r13 H13 x13 y13 h130 h131 hb13 o13 => ?_⟩
        rw [List.length_map] at h131
        have hw13 := (o13 wt nwb).trans hw12
        have k13 : r13.toNat < ws.length := by omega
        refine ⟨wt, _, r13, r13.toNat, _, rfl, rfl, hw13, by omega, by omega, PySem.seqIndex_of h130 (by rw [List.length_map]; omega), get_int k13, ?_⟩
        rw [erase_int]
        have l14 : (ws.eraseIdx r13.toNat).length + 1 = ws.length := by rw [List.length_eraseIdx_of_lt k13]; omega
        have hw14 := upd_same (H := H13) (a := wt) (o := .lst ((ws.eraseIdx r13.toNat).map V.int))
        have hb14 : upd H13 wt (.lst ((ws.eraseIdx r13.toNat).map V.int)) b = _ := (upd_ne nwb.symm).trans hb13
        refine ⟨_, rfl, .inl ⟨rfl, _, SqL.of hw14⟩, _, rfl, _, rfl, wt, _, rfl, .inl (SqL.of hw14), b, x13, y13, _, rfl, hb14, by rw [List.length_map]; omega, by rw [List.length_map]; omega, fun r15 H15 x15 y15 h150 h151 hb15 o15 => ?_⟩
        rw [List.length_map] at h151
        have hw15 := (o15 wt nwb).trans hw14
        have k15 : r15.toNat < (ws.eraseIdx r13.toNat).length := by omega
        refine ⟨wt, _, r15, r15.toNat, _, rfl, rfl, hw15, by omega, by omega, PySem.seqIndex_of h150 (by rw [List.length_map]; omega), get_int k15, ?_⟩
        rw [erase_int]
        have l16 : ((ws.eraseIdx r13.toNat).eraseIdx r15.toNat).length + 1 = (ws.eraseIdx r13.toNat).length := by rw [List.length_eraseIdx_of_lt k15]; omega
        have B16 : But b H (upd H15 wt (.lst (((ws.eraseIdx r13.toNat).eraseIdx r15.toNat).map V.int))) := (((B12.one o13).put (.inr fwt)).one o15).put (.inr fwt)
        have hb16 : upd H15 wt (.lst (((ws.eraseIdx r13.toNat).eraseIdx r15.toNat).map V.int)) b = _ := (upd_ne nwb.symm).trans hb15
        have hw16 := upd_same (H := H15) (a := wt) (o := .lst (((ws.eraseIdx r13.toNat).eraseIdx r15.toNat).map V.int))
        have hn16 : upd H15 wt (.lst (((ws.eraseIdx r13.toNat).eraseIdx r15.toNat).map V.int)) nd = _ := (upd_ne nwd.symm).trans ((o15 nd nnd).trans ((upd_ne nwd.symm).trans ((o13 nd nnd).trans hn12)))
        have hm16 : upd H15 wt (.lst (((ws.eraseIdx r13.toNat).eraseIdx r15.toNat).map V.int)) md = _ := (upd_ne nwm.symm).trans ((o15 md nmb).trans ((upd_ne nwm.symm).trans ((o13 md nmb).trans hm12)))
        have s1 : (ws.eraseIdx r13.toNat).Sublist ws := List.eraseIdx_sublist _ _
        have s2 : ((ws.eraseIdx r13.toNat).eraseIdx r15.toNat).Sublist (ws.eraseIdx r13.toNat) := List.eraseIdx_sublist _ _
        have W2 := W.fewer (s2.trans s1)
        have aW := W.rng _ (List.getElem_mem k13)
        have bW := W.rng _ (s1.subset (List.getElem_mem k15))
        have naE : ws[r13.toNat] ∉ ws.eraseIdx r13.toNat := nd_erase W.nd k13
        have nab : ws[r13.toNat] ≠ (ws.eraseIdx r13.toNat)[r15.toNat] := fun z => naE (z ▸ List.getElem_mem k15)
        refine ⟨_, rfl, _, rfl, b, x15, y15, rare, rfl, hb16, by omega, by omega, fun r17 H17 x17 y17 h170 h171 hb17 o17 => ⟨_, _, rfl, rfl, _, rfl, ite2 (fun c => ?_) (fun c => ?_)⟩⟩
        · have hm17 := (o17 md nmb).trans hm16
          refine ⟨_, rfl, _, rfl, _, rfl, md, _, _, _, rfl, rfl, hm17, ix_nat aW.1 (by rw [List.length_map, M.len]; exact aW.2), ?_⟩
          refine ⟨_, rfl, _, rfl, _, rfl, md, _, _, _, rfl, rfl, upd_same, ix_nat bW.1 (by rw [List.length_set, List.length_map, M.len]; exact bW.2), ?_⟩
          rw [show V.int (ws.eraseIdx r13.toNat)[r15.toNat] = mV (some (ws.eraseIdx r13.toNat)[r15.toNat]) from rfl, set_mV, show V.int ws[r13.toNat] = mV (some ws[r13.toNat]) from rfl, set_mV]
          refine ⟨_, ?_, (ws.eraseIdx r13.toNat).eraseIdx r15.toNat, (ms.set ws[r13.toNat].toNat (some (ws.eraseIdx r13.toNat)[r15.toNat])).set (ws.eraseIdx r13.toNat)[r15.toNat].toNat (some ws[r13.toNat]), _, _, x17, y17, rfl, by omega, rfl, ((B16.one o17).put (.inr fmd)).put (.inr fmd), ?_, ?_, upd_same, ?_, ?_, ?_⟩
          · omega
          · rw [upd_ne nmb.symm, upd_ne nmb.symm]; exact hb17
          · rw [upd_ne nmd.symm, upd_ne nmd.symm]; exact (o17 nd nnd).trans hn16
          · rw [upd_ne nwm, upd_ne nwm]; exact (o17 wt nwb).trans hw16
          · exact M.pair aW bW nab (W.free _ (List.getElem_mem k13)) (W.free _ (s1.subset (List.getElem_mem k15)))
          · exact W2.pair aW.1 bW.1 (fun z => naE (s2.subset z)) (nd_erase (W.nd.sublist s1) k15) _ _
        · exact ⟨_, (by omega : ((ws.eraseIdx r13.toNat).eraseIdx r15.toNat).length < ws.length), (ws.eraseIdx r13.toNat).eraseIdx r15.toNat, ms, _, _, x17, y17, rfl, by omega, rfl, B16.one o17, hb17, (o17 nd nnd).trans hn16, (o17 md nmb).trans hm16, (o17 wt nwb).trans hw16, M, W2⟩
      ·
        refine ⟨_, rfl, nd, _, rfl, .inl ⟨SqL.of hn12, fun po hpo => ⟨_, rfl, md, _, rfl, .inl ⟨SqL.of (up hpo hm12), fun pm hpm => ⟨(by show 2 ≤ sizeLine; decide), fun p hp => ?_⟩⟩⟩⟩⟩
        have C1 := B12.new hpo (o := .tup (onw.map V.int))
        have C2 := C1.new hpm (o := .tup (ms.map mV))
        have e1 : po ≠ b := (ne_of_none hb12 hpo).symm
        have e2 : pm ≠ b := (ne_of_none (up hpo hb12) hpm).symm
        have e3 : p ≠ b := (ne_of_none (up hpm (up hpo hb12)) hp).symm
        exact q _ p po pm onw ms x12 y12 (skin_of (by omega) (by omega) O S M) (by rw [S.len]; omega) (C2.new hp) (up hp (up hpm (up hpo hb12))) (C2.newN hp hbn e3) (B12.newN hpo hbn e1) (C1.newN hpm hbn e2) upd_same (up hp (up hpm upd_same)) (up hp upd_same)
end
end Hs
set_option Elab.async false
set_option linter.all false
set_option maxRecDepth 100000
set_option maxHeartbeats 4000000
namespace L2
open PySem PySem.Spec PyProof.Rows
section
variable {prog : Program} {w : World} {A : Around} {E : Value → Shared → Prop} {s : Shared}
open AutoSeq1 (wpAny_loadPart') in
open AutoSeq1 (wpAny_loadPart') in
end
section
variable {X : Cx}
variable {K : PySem.W.Frag}
theorem ix_listK (hK : X.K = K) : IxR X (rIxL K) := by subst hK; exact ix_list
end
end L2
set_option Elab.async false
set_option linter.all false
set_option maxRecDepth 100000
set_option maxHeartbeats 4000000
namespace L2
open PySem PySem.Spec PyProof.Rows
mutual
theorem Dp.same {K : PySem.W.Frag} {H H' : Hp} (s : Same H H') : ∀ (d : PyData) (v : V), Dp K H v d → Dp K H' v d
  | .none, _, h => by cases h; exact .non
  | .bool b, _, h => by cases h; exact .bl b
  | .int i, _, h => by cases h; exact .int i
  | .str x, _, h => by cases h; exact .str x
  | .list ds, _, h => by
    cases h with
    | lst hs ha => exact .lst (s.seq hs) (DpAll.same s ds _ ha)
  | .tuple ds, _, h => by
    cases h with
    | tup hs ha =>
      refine .tup ?_ (DpAll.same s ds _ ha)
      rcases hs with (h | ⟨o, h⟩) | h
      · exact .inl (.inl (s _ _ h))
      · exact .inl (.inr ⟨o, s _ _ h⟩)
      · exact .inr h
  | .dict _, _, h => by cases h
theorem DpAll.same {K : PySem.W.Frag} {H H' : Hp} (s : Same H H') : ∀ (ds : List PyData) (vs : List V), DpAll K H vs ds → DpAll K H' vs ds
  | [], _, h => by cases h; exact .nil
  | d :: ds, _, h => by
    cases h with
    | cons h1 h2 => exact .cons (Dp.same s d _ h1) (DpAll.same s ds _ h2)
end
section
variable {K : PySem.W.Frag} {H H' : Hp}
theorem DpAll.len : ∀ {vs : List V} {ds : List PyData}, DpAll K H vs ds → vs.length = ds.length
  | _, _, .nil => rfl
  | _, _, .cons _ t => by rw [List.length_cons, List.length_cons, DpAll.len t]
theorem DpAll.get : ∀ {vs : List V} {ds : List PyData} {i : Nat} {v : V}, DpAll K H vs ds → vs[i]? = some v → ∃ d, ds[i]? = some d ∧ Dp K H v d
  | _, _, _, _, .nil, e => by simp at e
  | _, _, 0, _, .cons r _, e => by simp at e; subst e; exact ⟨_, rfl, r⟩
  | _, _, i + 1, v, .cons _ t, e => by
    obtain ⟨d, h1, h2⟩ := DpAll.get (i := i) (v := v) t (by simpa using e)
    exact ⟨d, by simpa using h1, h2⟩
theorem DpAll.take : ∀ {vs : List V} {ds : List PyData} (n : Nat), DpAll K H vs ds → DpAll K H (vs.take n) (ds.take n)
  | _, _, 0, _ => .nil
  | _, _, _ + 1, .nil => .nil
  | _, _, n + 1, .cons r t => .cons r (DpAll.take n t)
theorem DpAll.drop : ∀ {vs : List V} {ds : List PyData} (n : Nat), DpAll K H vs ds → DpAll K H (vs.drop n) (ds.drop n)
  | _, _, 0, r => r
  | _, _, _ + 1, .nil => .nil
  | _, _, n + 1, .cons _ t => DpAll.drop n t
def kdD : PyData → Kd
  | .none => .non | .bool _ => .bool | .int _ => .int | .str _ => .str | .list _ => .lst | .tuple _ => .tup | .dict _ => .non
theorem Dp.kind {v : V} {d : PyData} (h : Dp K H v d) : KindV K H v (kdD d) := by
  cases h with
  | non => rfl
  | bl _ => rfl
  | int _ => rfl
  | str _ => rfl
  | lst hs _ => exact .inr ⟨rfl, _, hs⟩
  | tup hs _ => exact .inl ⟨rfl, _, hs⟩
end
mutual
def wd : PyData → Nat
  | .tuple ds => max ds.length (wdAll ds)
  | .list ds => max ds.length (wdAll ds)
  | _ => 0
def wdAll : List PyData → Nat
  | [] => 0
  | d :: r => max (wd d) (wdAll r)
end
structure Gd (k : Nat) (d : PyData) : Prop where
  lay : d.canLay0 = true
  dp : d.depth ≤ k
  wide : wd d ≤ 400 + k
theorem Gd.mono {j k : Nat} {d : PyData} (g : Gd j d) (h : j ≤ k) : Gd k d := ⟨g.lay, Nat.le_trans g.dp h, Nat.le_trans g.wide (by omega)⟩
def GdA (k : Nat) (ds : List PyData) : Prop := ∀ d ∈ ds, Gd k d
theorem gdA_lay {k : Nat} : ∀ {ds : List PyData}, GdA k ds → PyData.canLayAll0 ds = true
  | [], _ => by simp [PyData.canLayAll0]
  | d :: r, g => by
    rw [PyData.canLayAll0, (g d (by simp)).lay, gdA_lay (fun x hx => g x (by simp [hx]))]; rfl
theorem gdA_dp {k : Nat} : ∀ {ds : List PyData}, GdA k ds → PyData.depthAll ds ≤ k
  | [], _ => by simp [PyData.depthAll]
  | d :: r, g => by
    have h1 := (g d (by simp)).dp
    have h2 := gdA_dp (k := k) (ds := r) (fun x hx => g x (by simp [hx]))
    rw [PyData.depthAll]; omega
theorem gdA_wd {k : Nat} : ∀ {ds : List PyData}, GdA k ds → wdAll ds ≤ 400 + k
  | [], _ => by simp [wdAll]
  | d :: r, g => by
    have h1 := (g d (by simp)).wide
    have h2 := gdA_wd (k := k) (ds := r) (fun x hx => g x (by simp [hx]))
    rw [wdAll]; omega
theorem Gd.tup {k : Nat} {ds : List PyData} (g : GdA k ds) (h : ds.length ≤ 401 + k) : Gd (k + 1) (.tuple ds) :=
  ⟨by rw [PyData.canLay0]; exact gdA_lay g, by have := gdA_dp g; rw [PyData.depth]; omega, by have := gdA_wd g; rw [wd]; omega⟩
theorem Gd.lst {k : Nat} {ds : List PyData} (g : GdA k ds) (h : ds.length ≤ 401 + k) : Gd (k + 1) (.list ds) :=
  ⟨by rw [PyData.canLay0]; exact gdA_lay g, by have := gdA_dp g; rw [PyData.depth]; omega, by have := gdA_wd g; rw [wd]; omega⟩
theorem lay_all : ∀ {ds : List PyData}, PyData.canLayAll0 ds = true → ∀ d ∈ ds, d.canLay0 = true
  | d :: r, h, x, hx => by
    rw [PyData.canLayAll0, Bool.and_eq_true] at h
    rcases List.mem_cons.mp hx with rfl | hx
    · exact h.1
    · exact lay_all h.2 x hx
theorem dp_all : ∀ {ds : List PyData}, ∀ d ∈ ds, d.depth ≤ PyData.depthAll ds
  | d :: r, x, hx => by
    rw [PyData.depthAll]
    rcases List.mem_cons.mp hx with rfl | hx
    · omega
    · have := dp_all x hx; omega
theorem wd_all : ∀ {ds : List PyData}, ∀ d ∈ ds, wd d ≤ wdAll ds
  | d :: r, x, hx => by
    rw [wdAll]
    rcases List.mem_cons.mp hx with rfl | hx
    · omega
    · have := wd_all x hx; omega
theorem Gd.parts {k : Nat} {ds : List PyData} (g : Gd k (.tuple ds)) : GdA k ds ∧ ds.length ≤ 400 + k := by
  obtain ⟨h1, h2, h3⟩ := g
  rw [PyData.canLay0] at h1
  rw [PyData.depth] at h2
  rw [wd] at h3
  refine ⟨fun d hd => ⟨lay_all h1 d hd, ?_, ?_⟩, by omega⟩
  · have := dp_all d hd; omega
  · have := wd_all d hd; omega
theorem Gd.shaped {k : Nat} {d : PyData} (g : Gd k d) (h : k ≤ 64) : SeqAt.shaped d = true := by
  unfold SeqAt.shaped
  rw [Bool.and_eq_true]
  exact ⟨g.lay, decide_eq_true (Nat.le_trans g.dp h)⟩
theorem same_put {H : Hp} {p : Addr} (h : H p = none) (o : HO) : Same H (upd H p o) := fun b u q => by rw [upd_ne (ne_of_none q h)]; exact q
section
variable {K : PySem.W.Frag}
end
def hid (b : Addr) (H : Hp) : Hp := fun a => if a = b then none else H a
theorem PE.by {X : Cx} {e : Expr} {t u : TE} (h : PE X e t) (i : ∀ σ H Q, u σ H Q → t σ H Q) : PE X e u := fun pins s σ H Q I q => h pins s σ H Q I (i σ H Q q)
theorem PA.by {X : Cx} {e : List Expr} {t u : TA} (h : PA X e t) (i : ∀ σ H Q, u σ H Q → t σ H Q) : PA X e u := fun pos pins s σ H Q I q => h pos pins s σ H Q I (i σ H Q q)
theorem PS.by {X : Cx} {e : Stmt} {t u : TS} (h : PS X e t) (i : ∀ D σ H, u D σ H → t D σ H) : PS X e u := fun pins s σ H D I q => h pins s σ H D I (i D σ H q)
end L2
set_option Elab.async false
set_option maxRecDepth 20000
namespace Hs
open PySem PySem.Spec PyProof.Rows L2
structure Exo (h : Heap) (e : Addr) (cls : Value) (od : Option Addr) (vs : Array Value) : Prop where
  here : ∃ sl, h.get? e = some ⟨cls, od, .fields vs, sl⟩
  ctx : vs[2]? = some .none
def Tra (h : Heap) (e : Addr) (vs : Array Value) : Prop :=
  vs[1]? = some .none ∨ ∃ T oT ts, vs[1]? = some (.ref T) ∧ T ≠ e ∧ h.get? T = some oT ∧ oT.data = .fields ts ∧ ts[3]? = some .none
theorem arr_same {a : Array Value} {i : Nat} {x : Value} (e : a[i]? = some x) : a.setIfInBounds i x = a := by
  apply Array.ext_getElem?
  intro j
  rw [Array.getElem?_setIfInBounds]
  split
  · rename_i hij; subst hij
    rw [e]
    obtain ⟨hl, _⟩ := Array.getElem?_eq_some_iff.mp e
    simp [hl]
  · rfl
theorem obj_same {o : Obj} {ts : Array Value} {i : Nat} {x : Value} (d : o.data = .fields ts) (e : ts[i]? = some x) : o.mapFields (·.setIfInBounds i x) = o := by
  obtain ⟨c, dd, dt, sl⟩ := o
  have d : dt = .fields ts := d
  subst d
  show (⟨c, dd, .fields (ts.setIfInBounds i x), sl⟩ : Obj) = _
  rw [arr_same e]
theorem hupd_same {h : Heap} {T : Addr} {o : Obj} {f : Obj → Obj} (e : h.get? T = some o) (hf : f o = o) (b : Addr) : (h.update T f).get? b = h.get? b := by
  by_cases q : b = T
  · subst q
    rw [Heap.get?_update_self f e (by rw [hf]; exact (Heap.get?_some_iff.mp e).2), hf, e]
  · exact Heap.get?_update_other _ _ (Ne.symm q)
structure Noted (fs : List Addr) (e : Addr) (cls : Value) (od : Option Addr) (h h' : Heap) : Prop where
  keep : ∀ b o, b ≠ e → b ∉ fs → h.get? b = some o → h'.get? b = some o
  slot : ∀ b o, b ∈ fs → h.get? b = some o → ∃ sl, h'.get? b = some { o with slots := sl }
  exo : ∃ vs, Exo h' e cls od vs ∧ Tra h' e vs
section
variable {M : Model} {A : Around} {E : Value → Shared → Prop} {s : Shared}
theorem entry_land {base : Heap} {env : Env} {outer : List Env} {L e : Addr} {cls head : Value} {od : Option Addr} {vs : Array Value} {hn : Bool} {Q : Unit → Shared → Prop}
    (hfr : A.frames = some (env :: outer)) (hl : s.heap.FunFrames base (env :: outer)) (hf : env.frame = some L) (x : Exo s.heap e cls od vs)
    (h : ∀ h', Noted (frs (env :: outer)) e cls od s.heap h' → Q () { s with heap := h' }) :
    wpAny M A (do let a ← frameOf env; let pl ← entryPlaceOf L hn; let b ← EntryCells.newEntry head a .none (rawInt L) .none pl; setField (.ref e) 1 b)
      (fun _ s' => wpAny M A (setFlight (.ref e) none) Q E s') E s := by
  obtain ⟨⟨sl, he⟩, hc⟩ := x
  have hsz : 2 < vs.size := (Array.getElem?_eq_some_iff.mp hc).1
  have nfr : e ∉ frs (env :: outer) := fun hm => by
    obtain ⟨_, o, ho, hnf⟩ := hl.mem hm
    rw [he] at ho; cases ho
    exact hnf vs rfl
  refine wpAny_bind (wpAny_frameOf_fun hfr hl hf fun g hg => ?_)
  refine wpAny_bind (wpAny_entryPlaceOf fun pl hpl => ?_)
  unfold EntryCells.newEntry newFields
  refine wpAny_bind (wpAny_newObj_type ?_ (hpl.sizeOk5 _ _ _ _ _))
  generalize hnt : ([head, .ref L, .none, rawInt L, .none] ++ (if pl.isEmpty then List.replicate 6 Value.none else pl)).toArray = nt
  have nt3 : 3 < nt.size := by rw [← hnt]; simp only [List.size_toArray, List.length_append, List.length_cons, List.length_nil] <;> omega
  have g1 : g.get? e = some ⟨cls, od, .fields vs, sl⟩ := (hg.2.1 e nfr).trans he
  have g2 := Heap.get?_push_of_some (h := g) { cls := .type "traceback", dict := none, data := .fields nt } g1
  refine wpAny_setField g2 rfl (Nat.lt_of_succ_lt hsz) ?_
  have ne : g.objs.size ≠ e := Nat.ne_of_gt (Heap.lt_size g1)
  have g3 := Heap.get?_update_self (Obj.mapFields (·.setIfInBounds 1 (Value.ref g.objs.size))) g2 rfl
  have t3 := (Heap.get?_update_other (g.push { cls := .type "traceback", dict := none, data := .fields nt }) (Obj.mapFields (·.setIfInBounds 1 (Value.ref g.objs.size))) (Ne.symm ne)).trans (Heap.get?_push_size g rfl)
  unfold setFlight
  have v1 : (vs.setIfInBounds 1 (Value.ref g.objs.size))[1]? = some (.ref g.objs.size) := by
    have z : 1 < vs.size := by omega
    simp [z]
  refine wpAny_bind (wpAny_field (i := 1) g3 (vs := vs.setIfInBounds 1 (.ref g.objs.size)) rfl v1 ?_)
  rw [if_pos (show (Value.ref g.objs.size != Value.none) = true from by simp)]
  refine wpAny_setField t3 rfl nt3 (h _ ?_)
  have same : ∀ b o, b ≠ e → g.get? b = some o → ((((g.push { cls := .type "traceback", dict := none, data := .fields nt }).update e (Obj.mapFields (·.setIfInBounds 1 (Value.ref g.objs.size)))).update g.objs.size (Obj.mapFields (·.setIfInBounds 3 ((none : Option Addr).elim Value.none fun f => rawInt f))))).get? b = some o := fun b o hb q => by
    rw [Heap.get?_update_other _ _ (Nat.ne_of_gt (Heap.lt_size q)), Heap.get?_update_other _ _ (Ne.symm hb)]
    exact Heap.get?_push_of_some _ q
  refine ⟨fun b o h1 h2 q => same b o h1 ((hg.2.1 b h2).trans q), fun b o h1 q => ?_, vs.setIfInBounds 1 (.ref g.objs.size), ⟨⟨sl, ?_⟩, ?_⟩, .inr ⟨g.objs.size, _, nt.setIfInBounds 3 .none, ?_, ne, Heap.get?_update_self _ t3 rfl, rfl, ?_⟩⟩
  · obtain ⟨z, hz⟩ := hg.2.2 b o q
    exact ⟨z, same b _ (fun k => nfr (k ▸ h1)) hz⟩
  · rw [Heap.get?_update_other _ _ ne]; exact g3
  · rw [Array.getElem?_setIfInBounds_ne (by decide)]; exact hc
  · exact v1
  · simp [nt3]
theorem note_land {base : Heap} {env : Env} {outer : List Env} {L e : Addr} {cls : Value} {od : Option Addr} {vs : Array Value} {Q : Unit → Shared → Prop}
    (hfr : A.frames = some (env :: outer)) (hl : s.heap.FunFrames base (env :: outer)) (hf : env.frame = some L) (x : Exo s.heap e cls od vs) (t : Tra s.heap e vs)
    (h : ∀ h', Noted (frs (env :: outer)) e cls od s.heap h' → Q () { s with heap := h' }) :
    wpAny M A (noteFrame (.ref e) env) (fun _ s' => wpAny M A (setFlight (.ref e) none) Q E s') E s := by
  obtain ⟨⟨sl, he⟩, hc⟩ := x
  unfold noteFrame
  simp only [hf]
  rcases t with h1 | ⟨T, oT, ts, h1, hTe, hT, hdT, h3⟩
  · refine wpAny_bind (wpAny_field he rfl h1 ?_)
    rw [if_neg (by decide)]
    exact entry_land hfr hl hf ⟨⟨sl, he⟩, hc⟩ h
  · refine wpAny_bind (wpAny_field he rfl h1 ?_)
    rw [if_pos (show (Value.ref T != Value.none) = true from by simp)]
    refine wpAny_bind (wpAny_field hT hdT h3 ?_)
    rw [if_neg (show ¬ ((Value.none == rawInt L) = true) from by simp [rawInt])]
    refine wpAny_bind (wpAny_setField hT hdT (Array.getElem?_eq_some_iff.mp h3).1 ?_)
    have sm := fun b => hupd_same hT (f := Obj.mapFields (·.setIfInBounds 3 Value.none)) (obj_same hdT h3) b
    refine entry_land (s := { s with heap := s.heap.update T (Obj.mapFields (·.setIfInBounds 3 Value.none)) }) hfr (hl.of_keeps fun b o q _ => ⟨o, (sm b).trans q, rfl⟩) hf ⟨⟨sl, (sm e).trans he⟩, hc⟩ fun h' n => ?_
    exact h h' ⟨fun b o h1 h2 q => n.keep b o h1 h2 ((sm b).trans q), fun b o h1 q => n.slot b o h1 ((sm b).trans q), n.exo⟩
theorem leave_land {base : Heap} {env : Env} {outer : List Env} {L e : Addr} {cls : Value} {od : Option Addr} {vs : Array Value} {Q : Unit → Shared → Prop}
    (hfr : A.frames = some (env :: outer)) (hl : s.heap.FunFrames base (env :: outer)) (hf : env.frame = some L) (x : Exo s.heap e cls od vs) (t : Tra s.heap e vs)
    (h : ∀ h', Noted (frs (env :: outer)) e cls od s.heap h' → Q () { s with heap := h' }) : wpAny M A (leaving env (.ref e)) Q E s := by
  unfold leaving
  exact wpAny_bind (note_land hfr hl hf x t h)
end
end Hs
set_option Elab.async false
set_option linter.all false
set_option maxRecDepth 100000
namespace Hs
open PySem PySem.Spec PyProof.Rows L2
def CXf (P : Program) (w : World) : CXT := fun outer H s E ev s' => ∃ e cls od H' vs, ev = .ref e ∧ s'.os = s.os ∧ AllBare s'.gens ∧ Un (frs outer) [] H H' s.heap s'.heap ∧ HOk P w H' s'.heap ∧
  s.heap.get? e = none ∧ H' e = none ∧ Exo s'.heap e cls od vs ∧ Tra s'.heap e vs ∧ E cls od H'
section
variable {X : Cx} {pins : List (Addr × Obj)} {σ : L2.St} {H H' : Hp} {s s' : Shared} {e : Addr} {cls : Value} {od : Option Addr}
structure Off (X : Cx) (pins : List (Addr × Obj)) (H : Hp) (e : Addr) : Prop where
  free : H e = none
  loc : e ≠ X.env.locals
  old : X.s_0.heap.get? e = none
  cell : ∀ x c, X.env.cells.lookup x = some c → c ≠ e
  pin : ∀ p ∈ X.pn ++ pins, p.1 ≠ e
theorem off_of (I : Inv X pins σ H s) (hx : X.ex = []) (n : s.heap.get? e = none) (hn : H' e = none) : Off X pins H' e := by
  refine ⟨hn, fun z => ?_, ?_, fun x c q z => ?_, fun p hp z => ?_⟩
  · obtain ⟨m, ⟨o, _, _, ho, _⟩, _⟩ := I.loc
    rw [← z, n] at ho; cases ho
  · cases q : X.s_0.heap.get? e with
    | none => rfl
    | some o =>
      obtain ⟨o', z⟩ := I.base.there e o q (by rw [hx]; simp)
      rw [n] at z; cases z
  · obtain ⟨v, o, ho, _⟩ := I.cell x c q
    rw [z, n] at ho; cases ho
  · have := (I.pin p hp).1
    rw [z, n] at this; cases this
theorem noted_inv {h' : Heap} (J : Inv X pins σ H s) (f : Off X pins H e) (n : Noted (frs X.stack) e cls od s.heap h') : Inv X pins σ H { s with heap := h' } := by
  have sne : ∀ b u, H b = some u → b ≠ e := fun b u q z => by rw [z, f.free] at q; cases q
  have snf : ∀ b u, H b = some u → b ∉ frs X.stack := fun b u q z => by rw [J.stkFree b z] at q; cases q
  have any : ∀ b o, b ≠ e → s.heap.get? b = some o → ∃ sl, h'.get? b = some { o with slots := sl } := fun b o hb q => by
    by_cases hf : b ∈ frs X.stack
    · exact n.slot b o hf q
    · exact ⟨o.slots, n.keep b o hb hf q⟩
  have cel : ∀ c v, c ≠ e → s.heap.IsCell c v → Heap.IsCell h' c v := fun c v hc ⟨o, ho, hd⟩ => by
    obtain ⟨sl, z⟩ := any c o hc ho
    exact ⟨_, z, hd⟩
  have old : ∀ b o, X.s_0.heap.get? b = some o → b ≠ e := fun b o q z => by rw [z, f.old] at q; cases q
  refine ⟨J.ok, J.os, J.bare, ⟨fun b o q z hb hx => ?_, fun b o q z hb hx => ?_, J.base.free, fun b o q hx => ?_, J.base.tups, J.base.frzs, J.base.tbls⟩, ?_, fun x c q => ?_, J.free, J.freeC, fun p hp => ?_, fun a o q => ?_, J.len⟩
  · refine n.keep b o (old b o q) (fun w => ?_) (J.base.keep b o q z hb hx)
    rcases List.mem_cons.mp (J.stkSub b w) with w | w
    · have h1 := Heap.lt_size q
      rw [w] at h1
      exact absurd (Nat.lt_of_lt_of_le h1 J.ok.above) (Nat.lt_irrefl _)
    · exact hb w
  · obtain ⟨sl, w⟩ := J.base.slot b o q z hb hx
    obtain ⟨sl', w'⟩ := any b _ (old b o q) w
    exact ⟨sl', w'⟩
  · obtain ⟨o', w⟩ := J.base.there b o q hx
    obtain ⟨sl', w'⟩ := any b _ (old b o q) w
    exact ⟨_, w'⟩
  · obtain ⟨m, ⟨o, es, ep, ho, hd, r⟩, hl⟩ := J.loc
    obtain ⟨sl, z⟩ := any _ o (Ne.symm f.loc) ho
    refine ⟨m, ⟨_, es, ep, z, hd, r⟩, fun i x v h1 h2 h3 => ?_⟩
    obtain ⟨u, ru, lk⟩ := hl i x v h1 h2 h3
    refine ⟨u, ru, ?_⟩
    rcases lk with lk | ⟨k, c, hc, ic⟩
    · exact .inl lk
    · exact .inr ⟨k, c, hc, cel c _ (f.cell x c hc) ic⟩
  · obtain ⟨v, ic⟩ := J.cell x c q
    exact ⟨v, cel c v (f.cell x c q) ic⟩
  · obtain ⟨p1, p2, p3, p4, p5⟩ := J.pin p hp
    refine ⟨n.keep _ _ (f.pin p hp) (fun w => ?_) p1, p2, p3, p4, p5⟩
    rcases List.mem_cons.mp (J.stkSub _ w) with w | w
    · exact p3 w
    · exact p4 w
  · refine (J.hok a o q).stay (fun b u hb r => ?_) (fun _ z => z) fun _ _ z => z
    rcases hb with rfl | hb
    · exact n.keep b u (sne b _ q) (snf b _ q) r
    · exact n.keep b u (sne b _ hb) (snf b _ hb) r
theorem cxf_inv {E : XK} {ev : Value} (I : Inv X pins σ H s) (hx : X.ex = []) (c : CXf X.prog X.w X.stack H s E ev s') :
    ∃ e cls od H' vs, ev = .ref e ∧ Inv X pins σ H' s' ∧ Off X pins H' e ∧ Exo s'.heap e cls od vs ∧ Tra s'.heap e vs ∧ E cls od H' := by
  obtain ⟨e, cls, od, H', vs, rfl, os, bare, un, hok, hlo, hn, x, t, q⟩ := c
  exact ⟨e, cls, od, H', vs, rfl, I.call' (ch := []) os un hok bare (fun b hb => absurd hb (by simp)), off_of I hx hlo hn, x, t, q⟩
def Good (X : Cx) (E : L2.St → XK) : Prop := ∀ (pins : List (Addr × Obj)) (σ : L2.St) (H : Hp) (s : Shared) (ev : Value) (s' : Shared), Inv X pins σ H s → CXf X.prog X.w X.stack H s (E σ) ev s' → X.xe ev s'
end
theorem good_fn {P : Program} {w : World} {K : PySem.W.Frag} {mg : Str → Option Value} {base : Heap} {N : List Str} {qual : Str} {scope : Scope} {f : Addr} {cd : Value} {A : Around} {outer : List Env} {s : Shared} {H : Hp} {E : XK} :
    Good (cxOf (CXf P w) P w K mg base N qual scope f cd A outer s H E) (fun _ => E) := by
  intro pins σ H1 s1 ev s2 I c
  obtain ⟨e, cls, od, H', vs, rfl, J, fp, x, t, q⟩ := cxf_inv I rfl c
  show wpAny _ _ (leaving _ (.ref e)) _ _ s2
  refine leave_land (base := base) J.ok.frames J.stack rfl x t fun h' n => ?_
  have J' := noted_inv J fp n
  obtain ⟨vs', x', t'⟩ := n.exo
  exact ⟨e, cls, od, H', vs', rfl, J'.os, J'.bare, J'.base, J'.hok, fp.old, fp.free, x', t', q⟩
section
variable {X : Cx} {x : Str} {ps : List Str} {k j : Nat} {sp : Sp} {e : Expr} {es : List Expr} {t : TA} {p pos : Pos} {E : L2.St → XK}
end
theorem FunX.ok {P : Program} {w : World} {K : PySem.W.Frag} {mg : Str → Option Value} {base : Heap} {x qual : Str} {st : Stmt} {f : Addr} {fd : FuncData} {N ps : List Str} {k : Nat} {sp : Sp} (F : Fun K x qual st f fd) (S : FnScope N ps (defScope st)) (len : ∀ vs H Q E, sp vs H Q E → vs.length = ps.length)
    (hbody : ∀ (cdv : Value) (A : Around) (outer : List Env) (s : Shared) (H : Hp) (vs : List V) (Q : VK) (E : XK), Room k (A.deeper (envOfC qual (defScope st) s.heap.objs.size f cdv)) → sp vs H Q E →
      Good (cxOf (CXf P w) P w K mg base N qual (defScope st) f cdv A outer s H E) (fun _ => E) →
      ∃ t, PSs (cxOf (CXf P w) P w K mg base N qual (defScope st) f cdv A outer s H E) (defBody st) t ∧ t { nx := fun _ H' => Q .non H', rt := Q } (start N vs) H) : FnOk P w K mg base (CXf P w) (k + 1) f fd ps sp := by
  obtain ⟨oc, od, kV, doc, pm, an, cdv, ct, osl, rfl, lk, hcd⟩ := F.ex
  exact L2.fn_of lk hcd S len fun A outer s H vs Q E hr hsp => hbody cdv A outer s H vs Q E hr hsp good_fn
end Hs
set_option Elab.async false
set_option linter.all false
set_option maxRecDepth 100000
namespace L2
open PySem PySem.Spec PyProof.Rows
section
variable {X : Cx}
end
end L2
namespace Hs
open PySem PySem.Spec PyProof.Rows L2
section
variable {X : Cx} {E : L2.St → XK} {C : Addr} {x : Str} {np cpos pos : Pos} {a : Expr} {as : List Expr} {t : TA}
end
end Hs
set_option Elab.async false
set_option linter.all false
set_option maxRecDepth 100000
namespace Hs
open PySem PySem.Spec PyProof.Rows L2
section
variable {X : Cx} {pins : List (Addr × Obj)} {σ : L2.St} {H : Hp} {s : Shared} {e : Addr} {oe : Obj} {cls : Value} {od : Option Addr}
end
section
variable {X : Cx} {E : L2.St → XK} {S : Addr} {x n : Str} {np hpos pos : Pos} {b0 : Stmt} {body suite : List Stmt} {tb : TS} {th : Addr → Obj → TS} {i : Nat}
end
end Hs
set_option Elab.async false
set_option linter.all false
set_option maxRecDepth 100000
namespace Hs
open PySem PySem.Spec PyProof.Rows L2
section
variable {prog : Program} {w : World} {A : Around} {E : Value → Shared → Prop} {s : Shared}
end
end Hs
set_option Elab.async false
set_option linter.all false
set_option maxRecDepth 100000
namespace L2
open PySem PySem.Spec PyProof.Rows Hs
section
variable {X : Cx}
end
end L2
set_option Elab.async false
set_option linter.all false
set_option maxRecDepth 100000
namespace Hs
open PySem PySem.Spec PySem.Calls PyProof.Rows PySem.W
section
variable {prog : Program} {w : World} {A : Around} {E : Value → Shared → Prop} {h : Heap} {g : Array GenState} {d : Drawn} {t : Nat} {os : OsState} {K : Frag} {a C : Addr} {o : Obj} {odo : Option Obj}
end
section
variable {K : Frag} {a C : Addr} {o : Obj} {odo : Option Obj}
end
end Hs
namespace Hs
open PySem PySem.Spec PyProof.Rows L2
section
variable {X : Cx} {e C : Addr} {oe : Obj} {b : Bool} {cv : V} {cu : Value}
end
section
variable {X : Cx} {x : Str} {k j : Nat} {sp : Addr → Obj → Hp → VK → Prop} {e : Addr} {oe : Obj} {ar : Expr} {t : TA} {p pos : Pos}
end
end Hs
set_option Elab.async false
set_option linter.all false
set_option maxRecDepth 100000
namespace L2
open PySem PySem.Spec PyProof.Rows PySem.SeqAt
section
variable {X : Cx}
end
end L2
set_option linter.all false
namespace Hs
abbrev InR (n : Nat) (x : Int) : Prop := 0 ≤ x ∧ x < n
inductive Trail (f : Int → Option Int) (h0 : Int) : Int → List Int → Prop
  | last {x : Int} : (f x = none ∨ f x = some h0) → Trail f h0 x [x]
  | step {x y : Int} {l : List Int} : f x = some y → y ≠ h0 → Trail f h0 y l → Trail f h0 x (x :: l)
def trl (f : Int → Option Int) (h0 : Int) : Nat → Int → List Int
  | 0, x => [x]
  | k + 1, x => x :: (match f x with
    | none => []
    | some y => if y = h0 then [] else trl f h0 k y)
def fstF (f : Int → Option Int) (h0 : Int) : Nat → Int → Int
  | 0, x => x
  | k + 1, x => match f x with
    | none => x
    | some y => if y = h0 then h0 else fstF f h0 k y
theorem trl_of {f : Int → Option Int} {h0 x : Int} {l : List Int} (t : Trail f h0 x l) : ∀ k, l.length ≤ k + 1 → trl f h0 k x = l := by
  induction t with
  | last h =>
    intro k _
    cases k with
    | zero => rfl
    | succ k =>
      unfold trl
      rcases h with h | h
      · rw [h]
      · rw [h]; simp
  | @step x y l h hy t ih =>
    intro k hk
    have hl : 1 ≤ l.length := by cases t <;> simp
    cases k with
    | zero => rw [List.length_cons] at hk; omega
    | succ k =>
      unfold trl
      rw [h]
      simp only [if_neg hy]
      rw [ih k (by simpa using hk)]
theorem Trail.head {f : Int → Option Int} {h0 x : Int} {l : List Int} (t : Trail f h0 x l) : ∃ r, l = x :: r := by
  cases t with
  | last h => exact ⟨[], rfl⟩
  | step h hy t => exact ⟨_, rfl⟩
theorem Trail.fin {f : Int → Option Int} {h0 x : Int} {l : List Int} (t : Trail f h0 x l) : ∃ z, l.getLast? = some z ∧ (f z = none ∨ f z = some h0) := by
  induction t with
  | @last x h => exact ⟨x, rfl, h⟩
  | @step x y l h hy t ih =>
    obtain ⟨z, e, q⟩ := ih
    obtain ⟨r, rfl⟩ := t.head
    exact ⟨z, by rw [List.getLast?_cons_cons]; exact e, q⟩
theorem Trail.all {f : Int → Option Int} {h0 x : Int} {l : List Int} (t : Trail f h0 x l) {P : Int → Prop} (h : P x) (st : ∀ a b, P a → f a = some b → P b) : ∀ z ∈ l, P z := by
  induction t with
  | @last x _ => intro z hz; rw [List.mem_singleton.mp hz]; exact h
  | @step x y l e hy t ih =>
    intro z hz
    rcases List.mem_cons.mp hz with rfl | hz
    · exact h
    · exact ih (st _ _ h e) z hz
theorem Trail.from {f : Int → Option Int} {h0 x : Int} {l : List Int} (t : Trail f h0 x l) : ∀ z ∈ l, z = x ∨ ∃ w ∈ l, f w = some z := by
  induction t with
  | @last x _ => intro z hz; exact .inl (List.mem_singleton.mp hz)
  | @step x y l e hy t ih =>
    intro z hz
    rcases List.mem_cons.mp hz with rfl | hz
    · exact .inl rfl
    · rcases ih z hz with rfl | ⟨w, hw, q⟩
      · exact .inr ⟨x, by simp, e⟩
      · exact .inr ⟨w, List.mem_cons_of_mem _ hw, q⟩
theorem Trail.into {f : Int → Option Int} {h0 x : Int} {l : List Int} (t : Trail f h0 x l) : ∀ z ∈ l, ∀ y, f z = some y → y = h0 ∨ y ∈ l := by
  induction t with
  | @last x h =>
    intro z hz y e
    rw [List.mem_singleton.mp hz] at e
    rcases h with h | h
    · rw [h] at e; cases e
    · rw [h] at e; exact .inl (Option.some.inj e).symm
  | @step x y l h hy t ih =>
    intro z hz w e
    rcases List.mem_cons.mp hz with rfl | hz
    · rw [h] at e
      obtain rfl := Option.some.inj e
      obtain ⟨r, rfl⟩ := t.head
      exact .inr (by simp)
    · rcases ih z hz w e with q | q
      · exact .inl q
      · exact .inr (List.mem_cons_of_mem _ q)
theorem nd_len : ∀ (n : Nat) (l : List Int), l.Nodup → (∀ z ∈ l, InR n z) → l.length ≤ n
  | 0, l, _, h => by
    cases l with
    | nil => simp
    | cons a r => have := h a (by simp); omega
  | n + 1, l, nd, h => by
    have ih := nd_len n (l.erase (n : Int)) (nd.erase _) fun z hz => by
      obtain ⟨h1, h2⟩ := (List.Nodup.mem_erase_iff nd).mp hz
      have := h z h2
      omega
    by_cases m : (n : Int) ∈ l
    · rw [List.length_erase_of_mem m] at ih; omega
    · rw [List.erase_of_not_mem m] at ih; omega
theorem trail_go {f : Int → Option Int} {n : Nat} {h0 : Int} (rng : ∀ x y, InR n x → f x = some y → InR n y) (inj : ∀ x y z, InR n x → InR n y → f x = some z → f y = some z → x = y) :
    ∀ (k : Nat) (v : List Int) (x : Int), (v ++ [x]).Nodup → (∀ z ∈ v ++ [x], InR n z) → (∀ z ∈ v ++ [x], z = h0 ∨ ∃ w ∈ v, f w = some z) → n ≤ v.length + k → ∃ l, Trail f h0 x l ∧ (v ++ l).Nodup ∧ ∀ z ∈ v ++ l, InR n z
  | 0, v, x, nd, hr, _, hk => by
    have := nd_len n _ nd hr
    simp at this; omega
  | k + 1, v, x, nd, hr, hf, hk => by
    cases e : f x with
    | none => exact ⟨[x], .last (.inl e), nd, hr⟩
    | some y =>
      by_cases hy : y = h0
      · exact ⟨[x], .last (.inr (by rw [e, hy])), nd, hr⟩
      · have hx : InR n x := hr x (by simp)
        have ny : y ∉ v ++ [x] := fun m => by
          rcases hf y m with q | ⟨w, hw, q⟩
          · exact hy q
          · have := inj w x y (hr w (by simp [hw])) hx q e
            subst this
            have nd' := (List.nodup_append.mp nd).2.2 w hw w (by simp)
            exact nd' rfl
        obtain ⟨l, t, nd2, hr2⟩ := trail_go rng inj k (v ++ [x]) y (by
            rw [List.nodup_append]
            exact ⟨nd, by simp, fun a ha b hb => by rw [List.mem_singleton.mp hb]; exact fun z => ny (z ▸ ha)⟩)
          (fun z hz => by
            rcases List.mem_append.mp hz with m | m
            · exact hr z m
            · rw [List.mem_singleton.mp m]; exact rng x y hx e)
          (fun z hz => by
            rcases List.mem_append.mp hz with m | m
            · rcases hf z m with q | ⟨w, hw, q⟩
              · exact .inl q
              · exact .inr ⟨w, by simp [hw], q⟩
            · rw [List.mem_singleton.mp m]; exact .inr ⟨x, by simp, e⟩)
          (by simp; omega)
        refine ⟨x :: l, .step e hy t, ?_, ?_⟩
        · rwa [List.append_assoc] at nd2
        · rwa [List.append_assoc] at hr2
theorem trail_ex {f : Int → Option Int} {n : Nat} {h0 : Int} (rng : ∀ x y, InR n x → f x = some y → InR n y) (inj : ∀ x y z, InR n x → InR n y → f x = some z → f y = some z → x = y) (h : InR n h0) :
    ∃ l, Trail f h0 h0 l ∧ l.Nodup ∧ (∀ z ∈ l, InR n z) ∧ l.length ≤ n := by
  obtain ⟨l, t, nd, hr⟩ := trail_go (h0 := h0) rng inj n [] h0 (by simp) (by simpa using h) (by simp) (by simp)
  exact ⟨l, t, by simpa using nd, by simpa using hr, nd_len n l (by simpa using nd) (by simpa using hr)⟩
theorem trl_ex {f : Int → Option Int} {n : Nat} {h0 : Int} (rng : ∀ x y, InR n x → f x = some y → InR n y) (inj : ∀ x y z, InR n x → InR n y → f x = some z → f y = some z → x = y) (h : InR n h0) :
    Trail f h0 h0 (trl f h0 n h0) ∧ (trl f h0 n h0).Nodup ∧ (∀ z ∈ trl f h0 n h0, InR n z) ∧ (trl f h0 n h0).length ≤ n := by
  obtain ⟨l, t, nd, hr, hl⟩ := trail_ex rng inj h
  rw [trl_of t n (by omega)]
  exact ⟨t, nd, hr, hl⟩
def Lin (f : Int → Option Int) : List Int → Prop
  | [] => True
  | [_] => True
  | x :: y :: r => f x = some y ∧ Lin f (y :: r)
theorem Trail.lin {f : Int → Option Int} {h0 x : Int} {l : List Int} (t : Trail f h0 x l) : Lin f l := by
  induction t with
  | last h => trivial
  | @step x y l e hy t ih =>
    obtain ⟨r, rfl⟩ := t.head
    exact ⟨e, ih⟩
theorem Lin.from {f : Int → Option Int} : ∀ {x : Int} {l : List Int}, Lin f (x :: l) → ∀ z ∈ l, ∃ w, w ∈ x :: l ∧ f w = some z
  | x, [], _, z, hz => by cases hz
  | x, y :: r, h, z, hz => by
    rcases List.mem_cons.mp hz with rfl | hz
    · exact ⟨x, by simp, h.1⟩
    · obtain ⟨w, hw, e⟩ := Lin.from h.2 z hz
      exact ⟨w, List.mem_cons_of_mem _ hw, e⟩
theorem trail_of_lin {f : Int → Option Int} {h0 : Int} : ∀ {x : Int} {l : List Int}, Lin f (x :: l) → (∀ z ∈ l, z ≠ h0) → (∀ z, (x :: l).getLast? = some z → f z = none ∨ f z = some h0) → Trail f h0 x (x :: l)
  | x, [], _, _, hl => .last (hl x rfl)
  | x, y :: r, h, hn, hl => .step h.1 (hn y (by simp)) (trail_of_lin h.2 (fun z hz => hn z (List.mem_cons_of_mem _ hz)) fun z hz => hl z (by rw [List.getLast?_cons_cons]; exact hz))
end Hs
set_option linter.all false
namespace Hs
def lkM (ms : List (Option Int)) (x : Int) : Option Int := (ms[x.toNat]?).getD none
def ahd (on : List Int) (h : Int) : Int := ((on.idxOf h : Nat) : Int)
def lefM (on : List Int) (ms : List (Option Int)) (h : Int) : Option Int := lkM ms (ahd on h)
def rigM (on : List Int) (ms : List (Option Int)) (h : Int) : Option Int := (lkM ms h).map (lk on)
def onwF (on : List Int) (x : Int) : Option Int := some (lk on x)
def patL (on : List Int) (h : Int) : List Int := trl (onwF on) h on.length h
def fstK (on : List Int) (ms : List (Option Int)) (h : Int) : Int := fstF (rigM on ms) h on.length h
theorem ahd_get {on : List Int} {h : Int} (m : h ∈ on) : on[on.idxOf h]? = some h := by
  rw [List.getElem?_eq_getElem (List.idxOf_lt_length_iff.mpr m)]; simp
theorem ahd_rng {on : List Int} {h : Int} (m : h ∈ on) : 0 ≤ ahd on h ∧ ahd on h < on.length := by
  have := List.idxOf_lt_length_iff.mpr m
  unfold ahd; omega
theorem lkM_some {ms : List (Option Int)} {half m : Int} (e : lkM ms half = some m) : ms[half.toNat]? = some (some m) := by
  unfold lkM at e
  cases e2 : ms[half.toNat]? with
  | none => rw [e2] at e; cases e
  | some o => rw [e2] at e; exact congrArg some e
section
variable {on : List Int} {ms : List (Option Int)} (S : SkinOk on ms)
include S
theorem SkinOk.mem {h : Int} (g : InR on.length h) : h ∈ on := S.sur h g.1 g.2
theorem SkinOk.lkR {x : Int} (g : InR on.length x) : InR on.length (lk on x) :=
  S.rng _ (List.mem_of_getElem? (lk_get (by omega)))
theorem SkinOk.lkI {x y : Int} (g : InR on.length x) (k : InR on.length y) (e : lk on x = lk on y) : x = y := by
  have h1 := lk_get (l := on) (x := x) (by omega)
  have h2 := lk_get (l := on) (x := y) (by omega)
  rw [e] at h1
  have := nd_at S.nd h1 h2
  omega
theorem SkinOk.lkA {y : Int} (g : InR on.length y) : lk on (ahd on y) = y := by
  have h := ahd_get (S.mem g)
  have r := ahd_rng (S.mem g)
  have h2 := lk_get (l := on) (x := ahd on y) (by omega)
  have e : (ahd on y).toNat = on.idxOf y := by unfold ahd; omega
  rw [e, h] at h2
  exact (Option.some.inj h2).symm
theorem SkinOk.ahR {y : Int} (g : InR on.length y) : InR on.length (ahd on y) := ahd_rng (S.mem g)
theorem SkinOk.mate {x m : Int} (g : InR on.length x) (e : lkM ms x = some m) : InR on.length m ∧ lkM ms m = some x ∧ m ≠ x := by
  obtain ⟨h1, h2, h3, h4⟩ := S.ok x.toNat m (lkM_some e)
  refine ⟨⟨h1, h2⟩, ?_, fun z => h3 (by omega)⟩
  unfold lkM
  rw [h4]
  show some ((x.toNat : Nat) : Int) = some x
  congr 1; omega
theorem SkinOk.lefG {x y : Int} (g : InR on.length x) (e : lefM on ms x = some y) : rigM on ms y = some x := by
  obtain ⟨gy, hy, _⟩ := S.mate (S.ahR g) e
  unfold rigM
  rw [hy]
  show some (lk on (ahd on x)) = some x
  rw [S.lkA g]
theorem SkinOk.pat {h : Int} (g : InR on.length h) : Trail (onwF on) h h (patL on h) ∧ (patL on h).Nodup ∧ (∀ z ∈ patL on h, InR on.length z) ∧ (patL on h).length ≤ on.length :=
  trl_ex (fun x y gx e => by cases e; exact S.lkR gx) (fun x y z gx gy a b => S.lkI gx gy ((Option.some.inj a).trans (Option.some.inj b).symm)) g
theorem SkinOk.row {g : Int} {l : List Int} (gl : ∀ z ∈ g :: l, InR on.length z) (hg : rigM on ms g = none) (L : Lin (lefM on ms) (g :: l)) (hl : ∀ z, (g :: l).getLast? = some z → lefM on ms z = none) : Trail (lefM on ms) g g (g :: l) := by
  refine trail_of_lin L (fun z hz e => ?_) fun z hz => .inl (hl z hz)
  obtain ⟨w, hw, q⟩ := L.from z hz
  have := S.lefG (gl w hw) q
  rw [e, hg] at this; cases this
end
end Hs
set_option linter.all false
namespace Hs
section
variable {on : List Int} {ms : List (Option Int)} (S : SkinOk on ms)
include S
end
end Hs
set_option Elab.async false
set_option linter.all false
set_option maxRecDepth 100000
set_option maxHeartbeats 1000000
namespace Hs
open PySem L2
section
variable {P : Program} {w : World} {K : PySem.W.Frag} {mg : Str → Option Value} {base : Heap} {f : Addr} {fd : FuncData} {cN : Addr}
structure SkAt (H : Hp) (p : Addr) (on : List Int) (ms : List (Option Int)) : Prop where
  ok : SkinOk on ms
  ex : ∃ po pm, H p = some (.tup [.ref po, .ref pm]) ∧ H po = some (.tup (on.map V.int)) ∧ H pm = some (.tup (ms.map mV))
theorem SkAt.same {H H' : Hp} {p : Addr} {on : List Int} {ms : List (Option Int)} (S : SkAt H p on ms) (s : Same H H') : SkAt H' p on ms := by
  obtain ⟨k, po, pm, h1, h2, h3⟩ := S
  exact ⟨k, po, pm, s _ _ h1, s _ _ h2, s _ _ h3⟩
theorem at_lkM {ms : List (Option Int)} {x : Int} (h0 : 0 ≤ x) (h : x < ms.length) : atI (ms.map mV) x = some (mV (lkM ms x)) := by
  refine atN h0 ?_
  unfold lkM
  rw [List.getElem?_map, List.getElem?_eq_getElem (by omega)]; rfl
theorem at_lk {on : List Int} {x : Int} (h0 : 0 ≤ x) (h : x < on.length) : atI (on.map V.int) x = some (.int (lk on x)) := by
  refine atN h0 ?_
  rw [List.getElem?_map, lk_get (by omega)]; rfl
end
end Hs
set_option Elab.async false
set_option linter.all false
set_option maxRecDepth 100000
set_option maxHeartbeats 1000000
namespace Hs
open PySem L2
theorem gd_i (k : Nat) (i : Int) : Gd k (.int i) := ⟨by simp [PyData.canLay0], by simp [PyData.depth], by simp [wd]⟩
theorem _root_.L2.Gd.eqv {k : Nat} {d : PyData} (g : Gd k d) : PyData.eqv d d = true := SeqAt.eqv_refl d g.lay
theorem yesT {σ : St} {H : Hp} {A B : Hp → Prop} (h : A H) : tYes σ H (fun b H3 => if b = true then A H3 else B H3) := by
  have z : (if true = true then A H else B H) := by rw [if_pos rfl]; exact h
  exact z
theorem same_set {H H' : Hp} {p : Addr} {o : HO} (s : Same H H') (h : H p = none) : Same H (upd H' p o) := fun b u q => by rw [upd_ne (ne_of_none q h)]; exact s b u q
theorem dpAll_of {K : PySem.W.Frag} {H : Hp} : ∀ (rs : List Addr) (ds : List PyData), rs.length = ds.length → (∀ (j : Nat) r d, rs[j]? = some r → ds[j]? = some d → Dp K H (.ref r) d) → DpAll K H (rs.map V.ref) ds
  | [], [], _, _ => .nil
  | r :: rs, d :: ds, hl, h => .cons (h 0 r d rfl rfl) (dpAll_of rs ds (by simpa using hl) fun j r' d' h1 h2 => h (j + 1) r' d' (by simpa using h1) (by simpa using h2))
  | [], _ :: _, hl, _ => by simp at hl
  | _ :: _, [], hl, _ => by simp at hl
end Hs
set_option Elab.async false
set_option linter.all false
set_option maxRecDepth 100000
set_option maxHeartbeats 1000000
namespace Hs
open PySem L2
section
variable {P : Program} {w : World} {K : PySem.W.Frag} {mg : Str → Option Value} {base : Heap} {f : Addr} {fd : FuncData} {cN cR : Addr}
end
end Hs
set_option Elab.async false
set_option linter.all false
set_option maxRecDepth 100000
set_option maxHeartbeats 1000000
namespace Hs
open PySem L2
section
variable {P : Program} {w : World} {K : PySem.W.Frag} {mg : Str → Option Value} {base : Heap} {f : Addr} {fd : FuncData} {cN cR : Addr}
end
end Hs
set_option Elab.async false
set_option linter.all false
set_option maxRecDepth 100000
set_option maxHeartbeats 1000000
namespace Hs
open PySem PySem.Spec PySem.Calls PyProof.Rows L2
def Bmain (mg : Str → Option Value) (h : Heap) : Prop := ∃ bm ob, mg "__builtins__" = some (.ref bm) ∧ bm ≠ builtinsNs ∧ h.get? bm = some ob ∧ ob.cls = .type "module" ∧ ob.dict = some builtinsNs ∧ ob.data = .plain
def CodeOf (H : Hp) (c' : Addr) (lq : Str) : Prop := ∃ oc vs t, H c' = some (.frz oc (.own 0)) ∧ oc.data = .fields vs ∧ vs[1]? = some (.str lq t)
def LamTab (pos : Pos) (lq : Str) (H : Hp) (P : Addr) : Prop :=
  ∃ ps, H P = some (.tbl ps) ∧ TriplesOk ps.toList ∧ (codeAmong pos ps.toList = none ∨ ∃ c', codeAmong pos ps.toList = some (.ref c') ∧ CodeOf H c' lq)
theorem tri_snoc : ∀ (l : List Value) (a b : Int) (t u : Tok) (c : Value), TriplesOk l → TriplesOk (l ++ [.int a t, .int b u, c])
  | [], _, _, _, _, _, _ => trivial
  | .int _ _ :: .int _ _ :: _ :: r, a, b, t, u, c, h => tri_snoc r a b t u c h
def lamObj (mg : Str → Option Value) (env : Env) (params : Arguments) (body : Expr) (scope : Scope) (c' : Addr) (ctv : Value) : Obj :=
  PySem.W.kla_obj "<lambda>" (env.qual ++ "<lambda>") params body scope (cloFrom env.cells scope.names []) ((mg "__name__").getD .none) c' ctv
def tLam (mg : Str → Option Value) (env : Env) (params : Arguments) (body : Expr) (scope : Scope) (pos : Pos) (P : Addr) : TE := fun σ H Q => LamTab pos (env.qual ++ "<lambda>") H P ∧
  ∀ f c' ctv H', LamTab pos (env.qual ++ "<lambda>") H' P → CodeOf H' c' (env.qual ++ "<lambda>") → H f = none → H' f = some (.frz (lamObj mg env params body scope c' ctv) (.own 0)) → (∀ b o, b ≠ P → H b = some o → H' b = some o) → Q (.ref f) H'
section
variable {X : Cx}
theorem pe_lam {params : Arguments} {body : Expr} {scope : Scope} {pos : Pos} {c P : Addr} (hdef : defaultsOf params X.env = ([], [])) (hcl : ∀ y ∈ scope.names, y.2 = .free → ∃ cc, X.env.cells.lookup y.1 = some cc)
    (hcode : X.env.code = .ref c) (C : PySem.W.CodeHd X.base c P) (Bm : Bmain X.mg X.base) : PE X (.Lambda params body scope pos) (tLam X.mg X.env params body scope pos P) := by
  intro pins s σ H Q I h
  obtain ⟨⟨ps, hP, ht, hc⟩, q⟩ := h
  refine PySem.W.kla_eval hdef ?_
  have hgs := I.mod.glob.keeps I.bk
  have oP : s.heap.get? P = some { cls := .none, data := .fields ps } := I.hok P _ hP
  obtain ⟨bm, ob, b1, b2, b3, b4, b5, b6⟩ := Bm
  have hbP : bm ≠ P := fun z => by
    have e := I.bk _ _ b3
    rw [z, oP] at e; cases e; cases b4
  have hbG : bm ≠ mainGlobals := fun z => by
    obtain ⟨o, es, ep, e, hd, _⟩ := I.mod.glob
    rw [z, e] at b3; cases b3; rw [hd] at b6; cases b6
  have hgP : mainGlobals ≠ P := fun z => by
    obtain ⟨o, es, ep, e, hd, _⟩ := hgs
    rw [z, oP] at e; cases e; cases hd
  have hB : s.heap.BuiltinsAt X.mg P := ⟨bm, ob, b1, b2, hbG, hbP, I.bk _ _ b3, b4, b5, b6⟩
  have nP : ∀ b, H b = none → b ≠ P := fun b e z => by rw [z, hP] at e; cases e
  rcases hc with hc | ⟨c0, hc, K0⟩
  · refine PySem.W.kla_makeFunction (mg := X.mg) (closure_ok hcl) I.ok.glob hgs hcode (C.keeps I.bk) oP ht hc hgP hB fun c' ctv h' tk hx hge hlt hrec htb => ?_
    obtain ⟨c2, oc, vs, t, e2, hoc, hd, hv⟩ := hrec
    cases e2
    have sz : s.heap.objs.size ≤ h'.objs.size := Nat.le_of_lt (Nat.lt_of_le_of_lt hge hlt)
    have fc : H c' = none := I.hok.fresh hge
    have ff : H h'.objs.size = none := I.hok.fresh sz
    have ncf : c' ≠ h'.objs.size := Nat.ne_of_lt hlt
    have nPc : P ≠ c' := fun z => by rw [z, fc] at hP; cases hP
    have nPf : P ≠ h'.objs.size := fun z => by rw [z, ff] at hP; cases hP
    let H1 := upd (upd (upd H P (.tbl (ps ++ #[rawInt pos.line, rawInt pos.col, .ref c']))) c' (.frz oc (.own 0))) h'.objs.size (.frz (lamObj X.mg X.env params body scope c' ctv) (.own 0))
    have out : ∀ b, b ≠ P → b ≠ c' → b ≠ h'.objs.size → H1 b = H b := fun b z1 z2 z3 => by
      show upd _ _ _ b = _
      rw [upd_ne z3, upd_ne z2, upd_ne z1]
    have at1 : H1 h'.objs.size = some (.frz (lamObj X.mg X.env params body scope c' ctv) (.own 0)) := upd_same
    have at2 : H1 c' = some (.frz oc (.own 0)) := by show upd _ _ _ c' = _; rw [upd_ne ncf, upd_same]
    have at3 : H1 P = some (.tbl (ps ++ #[rawInt pos.line, rawInt pos.col, .ref c'])) := by show upd _ _ _ P = _; rw [upd_ne nPf, upd_ne nPc, upd_same]
    have some' : ∀ b o, b ≠ P → H b = some o → H1 b = some o := fun b o z e => by
      rw [out b z (fun y => by rw [y, fc] at e; cases e) (fun y => by rw [y, ff] at e; cases e)]; exact e
    have kp : ∀ b o, b ≠ P → s.heap.get? b = some o → (h'.push (lamObj X.mg X.env params body scope c' ctv)).get? b = some o := fun b o z e => Heap.get?_push_of_some _ (hx b o z e)
    refine ⟨.ref h'.objs.size, H1, ?_, rfl, q _ c' ctv H1 ⟨_, at3, ?_, .inr ⟨c', ?_, oc, vs, t, at2, hd, hv⟩⟩ ⟨oc, vs, t, at2, hd, hv⟩ ff at1 some'⟩
    · refine I.step (g' := s.gens) (d' := s.drawn) (ch := []) (fun _ z => nomatch z) (fun b o _ _ _ e n => kp b o (nP b n) e) (fun b o _ _ _ e n => ⟨o.slots, kp b o (nP b n) e⟩) (fun b o _ e n => ?_) (fun b o _ e => ?_) (fun b xs e => ?_) (fun b o u e => ?_) (fun b qs e => ?_) (fun m hm => ?_) (fun b u e => ?_) I.bare
      · have lt := Heap.lt_size e
        rw [out b (nP b n) (fun z => by rw [z] at lt; exact absurd (Nat.lt_of_lt_of_le lt hge) (Nat.lt_irrefl _)) (fun z => by rw [z] at lt; exact absurd (Nat.lt_of_lt_of_le lt sz) (Nat.lt_irrefl _))]
        exact n
      · by_cases z : b = P
        · rw [z]; exact ⟨_, Heap.get?_push_of_some _ htb⟩
        · exact ⟨o, kp b o z e⟩
      · exact some' b _ (fun z => by rw [z, hP] at e; cases e) e
      · exact some' b _ (fun z => by rw [z, hP] at e; cases e) e
      · by_cases z : b = P
        · rw [z, hP] at e; cases e; exact ⟨_, z ▸ at3⟩
        · exact ⟨#[], by rw [some' b _ z e]; simp⟩
      · obtain ⟨o, es, ep, ho, r⟩ := hm
        exact ⟨o, es, ep, kp _ o (nP _ I.free) ho, r⟩
      · by_cases z1 : b = h'.objs.size
        · subst z1
          rw [at1] at e; cases e
          exact ⟨Heap.get?_push_size _ rfl, _, Heap.get?_push_size _ rfl⟩
        by_cases z2 : b = c'
        · subst z2
          rw [at2] at e; cases e
          exact ⟨Heap.get?_push_of_some _ hoc, _, Heap.get?_push_of_some _ hoc⟩
        by_cases z3 : b = P
        · subst z3
          rw [at3] at e; cases e
          exact Heap.get?_push_of_some _ htb
        rw [out b z3 z2 z1] at e
        refine (I.hok b u e).stay (fun d v hd2 r => kp d v (fun z => ?_) r) (fun d r => some' d _ (fun z => by rw [z, hP] at r; cases r) r) fun d xs r => some' d _ (fun z => by rw [z, hP] at r; cases r) r
        rcases hd2 with y | y
        · exact z3 (y ▸ z)
        · rw [z, hP] at y; cases y
    · rw [Array.toList_append]; exact tri_snoc _ _ _ _ _ _ ht
    · rw [Array.toList_append]; exact codeAmong_snoc _ ht hc
  · obtain ⟨oc, vs, t, k1, k2, k3⟩ := K0
    refine PySem.W.kla_makeFunctionHit (mg := X.mg) (closure_ok hcl) I.ok.glob hgs hcode (C.keeps I.bk) oP ht hc hB fun ctv h' tk hk hsz => ?_
    have ff : H h'.objs.size = none := I.hok.fresh hsz
    have some' : ∀ b o, H b = some o → upd H h'.objs.size (.frz (lamObj X.mg X.env params body scope c0 ctv) (.own 0)) b = some o := fun b o e => by
      rw [upd_ne (ne_of_none e ff)]; exact e
    refine ⟨.ref h'.objs.size, upd H h'.objs.size (.frz (lamObj X.mg X.env params body scope c0 ctv) (.own 0)), ?_, rfl, q _ c0 ctv _ ⟨ps, some' _ _ hP, ht, .inr ⟨c0, hc, oc, vs, t, some' _ _ k1, k2, k3⟩⟩ ⟨oc, vs, t, some' _ _ k1, k2, k3⟩ ff upd_same fun b o _ e => some' b o e⟩
    exact I.laid (fun b u e => Heap.get?_push_of_some _ (hk b u e)) hsz ⟨Heap.get?_push_size _ rfl, _, Heap.get?_push_size _ rfl⟩
end
end Hs
set_option Elab.async false
set_option linter.all false
set_option maxRecDepth 100000
set_option maxHeartbeats 1000000
namespace Hs
open PySem PySem.Spec PySem.Calls PyProof.Rows L2
structure Callable (P : Program) (w : World) (K : PySem.W.Frag) (mg : Str → Option Value) (base : Heap) (k : Nat) (outer : List Env) (s : Shared) (H : Hp) (f : Addr) (dom : Int → Prop) (g : Int → List Int) : Prop where
  fn : ∃ o fd, H f = some (.frz o (.own 0)) ∧ o.data = .func fd
  run : ∀ (A : Around) (outer' : List Env) (s' : Shared) (H' : Hp) (h : Int) (t : Tok) (Q : VK), Room k A → Env0 P w K mg base A outer' s' H' →
    (∀ b o, s.heap.get? b = some o → H b = none → b ∉ frs outer → s'.heap.get? b = some o ∧ H' b = none) → Same H H' → dom h → (∀ r H2, Same H' H2 → H' r = none → H2 r = some (.tup ((g h).map V.int)) → Q (.ref r) H2) →
    codeAny (model P w) A (.call (.ref f) ⟨[.int h t], []⟩) (CR CX0 outer' P w H' s' Q E0) s'
section
variable {X : Cx}
def tCallV (H0 : Hp) (f : Addr) (i : Nat) (dom : Int → Prop) (g : Int → List Int) (t : TA) : TE := fun σ H Q => σ[i]? = some (some (.ref f)) ∧ Same H0 H ∧ t σ H fun vs H1 => ∃ h, vs = [.int h] ∧ Same H0 H1 ∧ dom h ∧ ∀ r H2, Same H1 H2 → H1 r = none → H2 r = some (.tup ((g h).map V.int)) → Q (.ref r) H2
theorem pe_callV {k j i : Nat} {f : Addr} {dom : Int → Prop} {g : Int → List Int} {x : Str} {p pos : Pos} {ar : Expr} {t : TA} (Cb : Callable X.prog X.w X.K X.mg X.base k X.outer X.s_0 X.H_0 f dom g) (hex : X.ex = []) (hr : Room j X.A) (hk : k ≤ j)
    (hi : X.N[i]? = some x) (hx : X.env.scope.names.lookup x = some .local) (ha : PA X [ar] t) (hdb : (x == ("__debug__" : Str)) = false := by decide) (he : starEach [ar] X.env = [(false, eval ar X.env)] := by rfl) :
    PE X (.Call (.Name x p) [ar] [] pos) (tCallV X.H_0 f i dom g t) := by
  intro pins s σ H Q I h
  obtain ⟨hv, sm, h⟩ := h
  obtain ⟨m, hn, hl⟩ := I.loc
  obtain ⟨u, r, l⟩ := hl i x _ hi hv (.inl hx)
  cases r
  have hkf : X.env.kindOf x = some .local := hx
  have lm : m x = some (.ref f) := by
    rcases l with ⟨_, e⟩ | ⟨z, _⟩
    · exact e
    · rw [hkf] at z
      rcases z with z | z <;> cases z
  have fnAt : ∀ {pins : List (Addr × Obj)} {σ : L2.St} {H : Hp} {s : Shared}, L2.Inv X pins σ H s → Same X.H_0 H → PySem.W.FnAt f s.heap := fun {pins σ H s} I sm => by
    obtain ⟨⟨oc, od, dt, sl⟩, fd, e1, e2⟩ := Cb.fn
    obtain ⟨e3, _⟩ := (show ObjOk X.prog X.w H s.heap f (.frz ⟨oc, od, dt, sl⟩ (.own 0)) from I.hok f _ (sm _ _ e1))
    have e2 : dt = .func fd := e2
    subst e2
    exact ⟨oc, od, fd, sl, e3⟩
  refine wpAny_Call_Name_kw (wpAny_Name (wpAny_loadName_local I.ok.kind hkf hn lm ?_) hdb)
  refine PySem.W.callWith_F (fnAt I sm) (thn (ha pos pins s σ H _ I h) fun us s1 ⟨vs, H1, I1, r, hh, e, sm1, hd, q⟩ => ⟨fnAt I1 sm1, ?_⟩) he rfl
  subst e
  obtain ⟨u1, rfl, ru⟩ := vals1 r
  obtain ⟨t, rfl⟩ := ru
  refine wpAny_call (codeAny_mono (Cb.run X.A X.stack s1 H1 hh t Q (hr.mono hk) I1.env0 (fun b o e n hb => ⟨I1.base.keep b o e n hb (by rw [hex]; simp), I1.base.free b o e n (by rw [hex]; simp)⟩) sm1 hd q) fun rr s' hq => ?_)
  cases rr with
  | error e => exact False.elim hq
  | ok fl =>
    cases fl with
    | ret u => exact I1.after hq
    | next => exact False.elim hq
    | brk => exact False.elim hq
    | cont => exact False.elim hq
end
abbrev SpS := Shared → List Env → List V → Hp → VK → Prop
structure FnS (P : Program) (w : World) (K : PySem.W.Frag) (mg : Str → Option Value) (base : Heap) (x : Str) (ps : List Str) (k : Nat) (sp : SpS) : Prop where
  ex : ∃ f fd, (∀ s o vs H Q, sp s o vs H Q → vs.length = ps.length) ∧ (∀ (A : Around) (outer : List Env) (s : Shared) (H : Hp) (args : Args) (us : List Value) (vs : List V) (Q : VK), Room k A → Env0 P w K mg base A outer s H → BindsTo s fd args (ps.zip us) → Vals vs us → sp s outer vs H Q →
    codeAny (model P w) A (.call (.ref f) args) (CR CX0 outer P w H s Q E0) s) ∧ Binds K fd ps [] ∧ PySem.W.keepIn K (.ref f) = true ∧ mg x = some (.ref f)
theorem fnS_of {P : Program} {w : World} {K : PySem.W.Frag} {mg : Str → Option Value} {base : Heap} {x qual : Str} {st : Stmt} {f : Addr} {fd : FuncData} {N ps : List Str} {k : Nat} {sp : SpS} (F : Fun K x qual st f fd) (S : FnScope N ps (defScope st)) (b : Binds K fd ps []) (m : mg x = some (.ref f))
    (len : ∀ s o vs H Q, sp s o vs H Q → vs.length = ps.length)
    (hbody : ∀ (cdv : Value) (A : Around) (outer : List Env) (s : Shared) (H : Hp) (vs : List V) (Q : VK), Room k (A.deeper (envOfC qual (defScope st) s.heap.objs.size f cdv)) → sp s outer vs H Q →
      ∃ t, PSs (cxOf CX0 P w K mg base N qual (defScope st) f cdv A outer s H E0).nox (defBody st) t ∧ t { nx := fun _ H' => Q .non H', rt := Q } (start N vs) H) : FnS P w K mg base x ps (k + 1) sp := by
  refine ⟨f, fd, len, fun A outer s H args us vs Q hr e0 hb r hsp => ?_, b, F.kp, m⟩
  obtain ⟨oc, od, kV, doc, pm, an, cdv, ct, osl, rfl, lk, hcd⟩ := F.ex
  have hl := len _ _ _ _ _ hsp
  have KX : K.In s.heap := e0.mod.kin.keeps fun b o e => (e0.bs b o e).1
  have lim : s.heap.NoLimit := e0.mod.nolimit.keeps fun b o e => (e0.bs b o e).1
  have hkind : ∀ y ∈ ps.zip us, (defScope st).names.lookup y.1 = some .local ∨ ((defScope st).names.lookup y.1 = some .cell ∧ ((cellsFrom (s.heap.objs.size + 1) (defScope st).names []).lookup y.1).isSome = true) := fun ⟨n, v⟩ hy => by
    rcases S.par n (List.of_mem_zip hy).1 with q | q
    · exact .inl q
    · exact .inr ⟨q, PySem.W.cellsFrom_some _ _ _ (.inl q)⟩
  refine codeAny_call_function hr.depth (KX _ _ lk) rfl S.co S.gen rfl (PySem.W.codeRec_of KX hcd) (hb _ _ _ _ ?_)
  refine wpAny_newFunctionEnv_cells S.kind hkind fun env he s1 x => ?_
  subst he
  refine ⟨lim.keeps x.toInCall.keep, codeAny_func ?_⟩
  obtain ⟨t, ht, hq⟩ := hbody cdv A outer s H vs Q (hr.deeper _) hsp
  have I : L2.Inv (cxOf CX0 P w K mg base N qual (defScope st) f cdv A outer s H E0) [] (start N vs) H s1 := inv_start S hr.hd e0 hl r x
  refine wpAny_mono (ht.nox [] s1 (start N vs) H _ I hq) (fun fl s' hs => ?_) fun e s' hs => hs
  have fin : ∀ {σ' : L2.St} {H' : Hp} {v : V} {u : Value}, L2.Inv (cxOf CX0 P w K mg base N qual (defScope st) f cdv A outer s H E0) [] σ' H' s' → L2.RelV v u → Q v H' → CE outer P w H s Q u s' :=
    fun {σ' H' v u} J rv q => ⟨v, H', J.os, J.bare, J.base, J.hok, rv, q⟩
  cases fl with
  | ret u =>
    obtain ⟨v, σ', H', J, rv, q⟩ := hs
    exact fin J rv q
  | next =>
    obtain ⟨σ', H', J, q⟩ := hs
    exact fin (v := V.non) (u := Value.none) J rfl q
  | brk =>
    obtain ⟨_, _, _, q⟩ := hs
    exact False.elim q
  | cont =>
    obtain ⟨_, _, _, q⟩ := hs
    exact False.elim q
section
variable {X : Cx} {x : Str} {ps : List Str} {k j : Nat} {sp : SpS} {e : Expr} {es : List Expr} {t : TA} {p pos : Pos} {spH : L2.St → List V → Hp → VK → Prop}
def Conv (X : Cx) (sp : SpS) (spH : L2.St → List V → Hp → VK → Prop) : Prop := ∀ (pins : List (Addr × Obj)) (σ : L2.St) (H : Hp) (s : Shared) (vs : List V) (Q : VK), L2.Inv X pins σ H s → spH σ vs H Q → sp s X.stack vs H Q
def tCallS (spH : L2.St → List V → Hp → VK → Prop) (t : TA) : TE := fun σ H Q => t σ H fun vs H1 => spH σ vs H1 Q
theorem pe_callS (F : FnS X.prog X.w X.K X.mg X.base x ps k sp) (hr : Room j X.A) (hk : k ≤ j) (cv : Conv X sp spH) (ha : PA X (e :: es) t) (hg : Gl X x := by rfl) (hdb : (x == ("__debug__" : Str)) = false := by decide)
    (he : starEach (e :: es) X.env = (false, eval e X.env) :: starEach es X.env := by rfl) (hpl : (backTo pos (starEach es X.env)).any (·.1) = false := by rfl) : PE X (.Call (.Name x p) (e :: es) [] pos) (tCallS spH t) := by
  obtain ⟨f, fd, len, FO, b, kp, m⟩ := F.ex
  intro pins s σ H Q I h
  refine wpAny_Call_Name_kw (ld_glob I hg m ?_ hdb)
  refine PySem.W.callWith_K (h₀ := X.base) I.ok.mod.kin kp (thn (ha pos pins s σ H _ I h) fun us s1 ⟨vs, H1, I1, r, q⟩ => ⟨I1.kIn, ?_⟩) he hpl
  have q := cv pins σ H1 s1 vs Q I1 q
  have hl : us.length = ps.length := by rw [← r.length]; exact len _ _ _ _ _ q
  have hb := b s1 us I1.kIn (by rw [List.append_nil]; exact hl)
  rw [List.append_nil] at hb
  refine wpAny_call (codeAny_mono (FO X.A X.stack s1 H1 ⟨us, []⟩ us vs Q (hr.mono hk) I1.env0 hb r q) fun r s' hq => ?_)
  cases r with
  | error e => exact False.elim hq
  | ok fl =>
    cases fl with
    | ret u => exact I1.after hq
    | next => exact False.elim hq
    | brk => exact False.elim hq
    | cont => exact False.elim hq
end
end Hs
set_option Elab.async false
set_option linter.all false
set_option maxRecDepth 100000
set_option maxHeartbeats 1000000
namespace Hs
open PySem PySem.Spec PySem.Calls PyProof.Rows L2
def cxLam (P : Program) (w : World) (K : PySem.W.Frag) (mg : Str → Option Value) (base : Heap) (N : List Str) (env : Env) (A : Around) (outer : List Env) (s : Shared) (H : Hp) : Cx :=
  { prog := P, w := w, K := K, mg := mg, base := base, A := A.deeper env, N := N, s_0 := s, H_0 := H, env := env, outer := outer, stack := env :: outer, ex := [], fn := fun _ => false, calm := true, pn := [], xe := fun _ _ => False }
structure LamScope (scope : Scope) (p : Str) (fs : List Str) : Prop where
  kind : scope.kind = .function
  co : scope.isCoroutine = false
  gen : scope.isGenerator = false
  nocell : ∀ x ∈ scope.names, x.2 ≠ .cell
  par : scope.names.lookup p = some .local
  fr : ∀ y ∈ fs, scope.names.lookup y = some .free
def Cap (X : Cx) (σ : L2.St) (fs : List Str) (vs : List V) : Prop := vs.length = fs.length ∧ ∀ (j : Nat) (y : Str) (v : V), fs[j]? = some y → vs[j]? = some v → ∃ i : Nat, X.N[i]? = some y ∧ σ[i]? = some (some v) ∧ X.env.scope.names.lookup y = some .cell
theorem clo_at {cells : List (Str × Addr)} {names : List (Str × NameKind)} (hcl : ∀ y ∈ names, y.2 = .free → ∃ cc, cells.lookup y.1 = some cc) {y : Str} {c : Addr} (h : (cloFrom cells names []).lookup y = some c) : cells.lookup y = some c := by
  rcases cloFrom_mem (PySem.mem_of_lookup h) with z | ⟨h1, h2⟩
  · cases z
  · obtain ⟨cc, e⟩ := hcl _ h1 rfl
    have e : cells.lookup y = some cc := e
    rw [e] at h2 ⊢
    exact congrArg some h2.symm
theorem clo_has {cells : List (Str × Addr)} {names : List (Str × NameKind)} {acc : List (Str × Addr)} {y : Str} (h : (y, NameKind.free) ∈ names) : ∃ c, (y, c) ∈ cloFrom cells names acc := ⟨_, cloFrom_has h⟩
theorem lam_callable {X : Cx} {pins : List (Addr × Obj)} {σ : L2.St} {H : Hp} {s : Shared} {params : Arguments} {body : Expr} {scope : Scope} {c' f : Addr} {ctv : Value} {p : Str} {fs : List Str} {vs : List V} {k : Nat} {dom : Int → Prop} {g : Int → List Int}
    (I : L2.Inv X pins σ H s) (hfn : ∀ y, X.fn y = true) (S : LamScope scope p fs) (hcl : ∀ y ∈ scope.names, y.2 = .free → ∃ cc, X.env.cells.lookup y.1 = some cc) (cap : Cap X σ fs vs)
    (hf : H f = some (.frz (lamObj X.mg X.env params body scope c' ctv) (.own 0))) (hc : CodeOf H c' (X.env.qual ++ "<lambda>"))
    (hbind : ∀ u : Value, bindArgs (PySem.W.kla_fn "<lambda>" (X.env.qual ++ "<lambda>") params body scope (cloFrom X.env.cells scope.names []) ((X.mg "__name__").getD .none) (.ref c') ctv) ⟨[u], []⟩ = pure [(p, u)])
    (hbody : ∀ (A : Around) (outer' : List Env) (s' : Shared) (H' : Hp) (h : Int) (Q : VK), Room k (A.deeper (PySem.W.envX (X.env.qual ++ "<lambda>") scope s'.heap.objs.size f (.ref c') (cloFrom X.env.cells scope.names []))) → Same H H' → dom h → (∀ r H2, Same H' H2 → H' r = none → H2 r = some (.tup ((g h).map V.int)) → Q (.ref r) H2) →
      ∃ t, PE (cxLam X.prog X.w X.K X.mg X.base (p :: fs) (PySem.W.envX (X.env.qual ++ "<lambda>") scope s'.heap.objs.size f (.ref c') (cloFrom X.env.cells scope.names [])) A outer' s' H') body t ∧ t (some (.int h) :: vs.map some) H' Q) :
    Callable X.prog X.w X.K X.mg X.base (k + 1) X.stack s H f dom g := by
  refine ⟨⟨_, _, hf, rfl⟩, fun A outer' s' H' h t Q hr e0 kept same hd q => ?_⟩
  obtain ⟨of, _⟩ := (show ObjOk X.prog X.w H' s'.heap f (.frz _ (.own 0)) from e0.hok f _ (same _ _ hf))
  obtain ⟨oc, ws, tq, k1, k2, k3⟩ := hc
  obtain ⟨oc', _⟩ := (show ObjOk X.prog X.w H' s'.heap c' (.frz _ (.own 0)) from e0.hok c' _ (same _ _ k1))
  have lim : s'.heap.NoLimit := e0.mod.nolimit.keeps fun b o e => (e0.bs b o e).1
  refine PySem.W.kla_callFunE hr.depth of rfl S.co S.gen rfl ⟨c', oc, ws, tq, rfl, oc', k2, k3⟩ ?_
  rw [hbind]
  refine wpAny_pure (wpAny_newFunctionEnv S.nocell (fun x hx => ?_) (fun h₁ hns hsb => ⟨lim.fresh _ hsb, ?_⟩) S.kind)
  · have : x = (p, .int h t) := by simpa using hx
    rw [this]; exact S.par
  show codeAny _ _ (.expr body (PySem.W.envX (X.env.qual ++ "<lambda>") scope s'.heap.objs.size f (.ref c') (cloFrom X.env.cells scope.names []))) _ _
  have hk₁ : ∀ b o, s'.heap.get? b = some o → h₁.get? b = some o := fun b o e => hsb.extBut b o (Nat.ne_of_lt (Heap.lt_size e)) (Heap.get?_push_of_some _ e)
  obtain ⟨tt, pe, hq⟩ := hbody A outer' s' H' h Q (hr.deeper _) same hd q
  have nofr : ∀ y c, X.env.cells.lookup y = some c → c ∉ frs X.stack := fun y c e z => by
    rcases List.mem_cons.mp (I.stkSub c z) with z | z
    · exact I.cne y c e z
    · obtain ⟨_, o, ho, _⟩ := I.ok.funs.mem z
      exact absurd (Nat.lt_of_lt_of_le (Heap.lt_size ho) (I.ok.cab y c (hfn y) e)) (Nat.lt_irrefl _)
  have cellK : ∀ y c v, X.env.cells.lookup y = some c → s.heap.IsCell c v → h₁.IsCell c v ∧ H' c = none := fun y c v e ⟨o, ho, hd⟩ => by
    obtain ⟨a, b⟩ := kept c o ho (I.freeC y c e) (nofr y c e)
    exact ⟨⟨o, hk₁ _ _ a, hd⟩, b⟩
  have J : L2.Inv (cxLam X.prog X.w X.K X.mg X.base (p :: fs) (PySem.W.envX (X.env.qual ++ "<lambda>") scope s'.heap.objs.size f (.ref c') (cloFrom X.env.cells scope.names [])) A outer' s' H') [] (some (.int h) :: vs.map some) H' { s' with heap := h₁, toks := s'.toks + 1 } := by
    refine ⟨⟨e0.mod, S.kind, rfl, rfl, Nat.le_refl _, fun y z c h1 h2 => I.ok.inj y z c (clo_at hcl h1) (clo_at hcl h2), fun y hy => ?_, fun y c z => absurd z Bool.false_ne_true, fun _ => hr.hd, Around.frames_deeper e0.frames, .inr ⟨rfl, rfl⟩, fun b z => absurd z (by simp [cxLam]), e0.bs, e0.bsz, fun b _ _ => by simp [cxLam], fun b z => absurd z (by simp [cxLam]), e0.funs, e0.frf⟩,
      rfl, e0.bare, Un.kept hk₁, ⟨_, hns, fun i y v h1 h2 h3 => ?_⟩, fun y c e => ?_, e0.hok.fresh (Nat.le_refl _), fun y c e => ?_, fun p hp => absurd hp (by simp [cxLam]), e0.hok.kept hk₁, ?_⟩
    · have hy : scope.names.lookup y = some .cell ∨ scope.names.lookup y = some .free := hy
      rcases hy with hy | hy
      · exact absurd rfl (S.nocell _ (PySem.mem_of_lookup hy))
      · obtain ⟨c, hc⟩ := clo_has (cells := X.env.cells) (acc := []) (PySem.mem_of_lookup hy)
        exact mem_lookup hc
    · cases i with
      | zero =>
        have e1 : p = y := by simpa [cxLam] using h1
        have e2 : V.int h = v := by simpa using h2
        subst e1; subst e2
        exact ⟨.int h t, ⟨t, rfl⟩, .inl ⟨S.par, by simp⟩⟩
      | succ j =>
        have h1 : fs[j]? = some y := by simpa [cxLam] using h1
        have h2 : vs[j]? = some v := by
          rw [List.getElem?_cons_succ, List.getElem?_map] at h2
          cases e : vs[j]? with
          | none => rw [e] at h2; cases h2
          | some u => rw [e] at h2; cases h2; rfl
        obtain ⟨i, n1, n2, n3⟩ := cap.2 j y v h1 h2
        obtain ⟨m, hm, hl⟩ := I.loc
        obtain ⟨u, ru, l⟩ := hl i y v n1 n2 (.inr (.inl n3))
        rcases l with ⟨z, _⟩ | ⟨_, c, e, ic⟩
        · have z : X.env.scope.names.lookup y = some .local := z
          rw [n3] at z; cases z
        · refine ⟨u, ru, .inr ⟨.inr (S.fr y (List.mem_of_getElem? h1)), c, ?_, (cellK y c _ e ic).1⟩⟩
          obtain ⟨cc, hcc⟩ := clo_has (cells := X.env.cells) (acc := []) (PySem.mem_of_lookup (S.fr y (List.mem_of_getElem? h1)))
          obtain ⟨c2, e2⟩ := mem_lookup hcc
          have := clo_at hcl e2
          rw [e] at this
          cases this
          exact e2
    · obtain ⟨v, ic⟩ := I.cell y c (clo_at hcl e)
      exact ⟨v, (cellK y c v (clo_at hcl e) ic).1⟩
    · obtain ⟨v, ic⟩ := I.cell y c (clo_at hcl e)
      exact (cellK y c v (clo_at hcl e) ic).2
    · show (some (V.int h) :: vs.map some).length = (p :: fs).length
      rw [List.length_cons, List.length_map, cap.1]; rfl
  exact PySem.W.kla_codeExpr (wpAny_mono (pe [] _ _ H' Q J hq) (fun u s2 ⟨v, H2, J2, rv, qv⟩ => ⟨v, H2, J2.os, J2.bare, J2.base, J2.hok, rv, qv⟩) fun _ _ z => False.elim z)
end Hs
set_option Elab.async false
set_option linter.all false
set_option maxRecDepth 100000
set_option maxHeartbeats 1000000
namespace Hs
open PySem PySem.Spec PySem.Calls PyProof.Rows L2
structure FunC (K : PySem.W.Frag) (x qual : Str) (st : Stmt) (f : Addr) (fd : FuncData) (c : Addr) : Prop where
  ex : ∃ (oc : Value) (od : Option Addr) (kV doc pm : Value) (an : Option Addr) (ct : Value) (osl : Array (Option Value)),
    fd = PySem.W.fnOf x qual (defArgs st) (defBody st) (defScope st) .none kV doc pm an (.ref c) ct ∧ K.lookup f = some ⟨oc, od, .func fd, osl⟩ ∧ PySem.W.codeIn K (.ref c) qual = true
  kp : PySem.W.keepIn K (.ref f) = true
theorem FunC.ok {P : Program} {w : World} {K : PySem.W.Frag} {mg : Str → Option Value} {base : Heap} {x qual : Str} {st : Stmt} {f c : Addr} {fd : FuncData} {N ps : List Str} {k : Nat} {sp : Sp} (F : FunC K x qual st f fd c) (S : FnScope N ps (defScope st)) (len : ∀ vs H Q E, sp vs H Q E → vs.length = ps.length)
    (hbody : ∀ (A : Around) (outer : List Env) (s : Shared) (H : Hp) (vs : List V) (Q : VK) (E : XK), Room k (A.deeper (envOfC qual (defScope st) s.heap.objs.size f (.ref c))) → sp vs H Q E →
      ∃ t, PSs (cxOf CX0 P w K mg base N qual (defScope st) f (.ref c) A outer s H E).nox (defBody st) t ∧ t { nx := fun _ H' => Q .non H', rt := Q } (start N vs) H) : FnOk P w K mg base CX0 (k + 1) f fd ps sp := by
  obtain ⟨oc, od, kV, doc, pm, an, ct, osl, rfl, lk, hcd⟩ := F.ex
  refine L2.fn_of lk hcd S len fun A outer s H vs Q E hr hsp => ?_
  obtain ⟨t, h, q⟩ := hbody A outer s H vs Q E hr hsp
  exact ⟨t, h.nox, q⟩
theorem FunC.toFun {K : PySem.W.Frag} {x qual : Str} {st : Stmt} {f c : Addr} {fd : FuncData} (F : FunC K x qual st f fd c) : Fun K x qual st f fd :=
  let ⟨oc, od, kV, doc, pm, an, ct, osl, e, lk, hcd⟩ := F.ex; ⟨⟨oc, od, kV, doc, pm, an, .ref c, ct, osl, e, lk, hcd⟩, F.kp⟩
theorem funC_mk {K : PySem.W.Frag} {x qual : Str} {st : Stmt} {f c : Addr} {oc : Value} {od an : Option Addr} {osl : Array (Option Value)} {kV doc pm ct : Value} (l : K.lookup f = some ⟨oc, od, .func (PySem.W.fnOf x qual (defArgs st) (defBody st) (defScope st) .none kV doc pm an (.ref c) ct), osl⟩)
    (h : PySem.W.codeIn K (.ref c) qual = true) (k : PySem.W.keepIn K (.ref f) = true) : FunC K x qual st f (PySem.W.fnOf x qual (defArgs st) (defBody st) (defScope st) .none kV doc pm an (.ref c) ct) c := ⟨⟨oc, od, kV, doc, pm, an, ct, osl, rfl, l, h⟩, k⟩
theorem codeHd_of {K : PySem.W.Frag} {h : Heap} {c P : Addr} {od : Option Addr} {vs : Array Value} {sl : Array (Option Value)} {file : Str} {tf : Tok} {flags text : Int} {tg tt : Tok} {inF : Bool} (X : K.In h) (l : K.lookup c = some ⟨.type "code", od, .fields vs, sl⟩) (e1 : vs[11]? = some (.ref P)) (e2 : vs.getD 11 .none = .ref P)
    (e3 : vs.getD 18 .none = .str file tf) (e4 : vs.getD 7 .none = .int flags tg) (e5 : vs.getD 9 .none = .bool inF) (e6 : vs.getD 10 .none = .int text tt) (ne : c ≠ P) : PySem.W.CodeHd h c P :=
  ⟨_, vs, file, tf, flags, tg, inF, text, tt, X _ _ l, rfl, rfl, e1, e2, e3, e4, e5, e6, ne⟩
theorem law_callT {P : Program} {w : World} {K : PySem.W.Frag} {mg mb : Str → Option Value} {k : Nat} {fa a : Addr} {fd : FuncData} {x : Str} {sp : Sp} {s₁ : Shared} {vs : List Value} {ns : List Int} (tabs : List Addr)
    (KX : K.In s₁.heap) (hns : s₁.heap.Ns mainGlobals mg) (hb : s₁.heap.Ns builtinsNs mb) (hbb : ∀ x : Str, x ≠ "__name__" → mb x = bootBuiltins x) (hlim : s₁.heap.NoLimit) (hg : s₁.gens = #[])
    (ha : s₁.heap.get? a = some { cls := .type "list", data := .seq vs.toArray }) (hi : IntsAre vs ns) (hl : ns.length ≤ sizeLine) (hr : Room k callerA)
    (hT : ∀ P ∈ tabs, s₁.heap.get? P = some (PySem.W.tabObj #[]) ∧ isCodeTable s₁.heap P) (nT : PySem.W.noTabs K = true) (Bm : Bmain mg s₁.heap)
    (F : ∀ base : Heap, K.In base → base.Ns mainGlobals mg → Bmain mg base → FnOk P w K mg base CX0 k fa fd [x] sp) (hbind : ∀ (s : Shared) (u : Value), BindsTo s fd ⟨[u], []⟩ [(x, u)])
    (hsp : ∀ H : Hp, SqL K H a (ns.map V.int) → (∀ P ∈ tabs, H P = some (.tbl #[])) → sp [.ref a] H (fun v _ => v = .bl true) E0) :
    codeAny (model P w) callerA (.call (.ref fa) ⟨[.ref a], []⟩) (fun r s' => r = .ok (.ret (.bool true)) ∧ OldK s₁.heap s'.heap ∧ s'.os = s₁.os ∧ AllBare s'.gens) s₁ := by
  have rv := vals_ints hi
  have lenV := hi.length
  let scr : HO := .frz { cls := .type "list", data := .seq vs.toArray } (.lst (ns.map V.int))
  let H : Hp := fun b => if b = a then (if (K.lookup a).isNone = true then some scr else none) else if b ∈ tabs then some (.tbl #[]) else none
  have aT : a ∉ tabs := fun z => by
    have e := (hT a z).1
    rw [ha] at e; cases e
  have Ha : H a = if (K.lookup a).isNone = true then some scr else none := if_pos rfl
  have HT : ∀ q ∈ tabs, H q = some (.tbl #[]) := fun q hq => by
    have ne : q ≠ a := fun z => aT (z ▸ hq)
    have e : H q = if q = a then (if (K.lookup a).isNone = true then some scr else none) else if q ∈ tabs then some (.tbl #[]) else none := rfl
    rw [e, if_neg ne, if_pos hq]
  have Hc : ∀ b u, H b = some u → (b = a ∧ u = scr ∧ K.lookup a = none) ∨ (b ∈ tabs ∧ u = .tbl #[]) := fun b u e => by
    by_cases z : b = a
    · subst z
      rw [Ha] at e
      split at e
      · rename_i q
        exact .inl ⟨rfl, (Option.some.inj e).symm, by simpa using q⟩
      · cases e
    · have e : (if b = a then (if (K.lookup a).isNone = true then some scr else none) else if b ∈ tabs then some (HO.tbl #[]) else none) = some u := e
      rw [if_neg z] at e
      split at e
      · rename_i q
        exact .inr ⟨q, (Option.some.inj e).symm⟩
      · cases e
  have hS : SqL K H a (ns.map V.int) := by
    cases q : K.lookup a with
    | none => exact .inl (.inr ⟨_, by rw [Ha, q]; rfl⟩)
    | some o =>
      have e := KX a o q
      rw [ha] at e
      cases e
      exact .inr ⟨_, vs.toArray, _, q, rfl, rfl, rfl, by rw [List.size_toArray, lenV]; exact hl, by simpa using rv⟩
  have hok : L2.HOk P w H s₁.heap := fun b u e => by
    rcases Hc b u e with ⟨rfl, rfl, _⟩ | ⟨hb, rfl⟩
    · exact ⟨ha, by rw [List.length_map]; exact hl, vs, _, rv, ha⟩
    · exact (hT b hb).1
  have base_of : ∀ {b : Addr} {o : Obj}, s₁.heap.get? b = some o → H b = none → (hidT s₁.heap H).get? b = some o := fun e n => hidT_get e n
  have noH : ∀ {b : Addr} {o : Obj}, s₁.heap.get? b = some o → (∀ its n, o.data ≠ .seq its n) → (∀ ws, o.data ≠ .fields ws) → H b = none := fun {b o} e n1 n2 => by
    cases q : H b with
    | none => rfl
    | some u =>
      rcases Hc b u q with ⟨rfl, _, _⟩ | ⟨hb, _⟩
      · rw [ha] at e; cases e; exact absurd rfl (n1 _ _)
      · rw [(hT b hb).1] at e; cases e; exact absurd rfl (n2 _)
  have nsK : ∀ {b : Addr} {m : Str → Option Value}, s₁.heap.Ns b m → (hidT s₁.heap H).Ns b m := fun {b m} ⟨o, es, ep, e, d, r⟩ => ⟨o, es, ep, base_of e (noH e (fun _ _ z => by rw [d] at z; cases z) (fun _ z => by rw [d] at z; cases z)), d, r⟩
  have hKb : K.In (hidT s₁.heap H) := fun b o e => base_of (KX b o e) (by
    cases q : H b with
    | none => rfl
    | some u =>
      rcases Hc b u q with ⟨rfl, _, z⟩ | ⟨hb, _⟩
      · rw [z] at e; cases e
      · have e2 := KX b o e
        rw [(hT b hb).1] at e2
        cases e2
        have h2 := List.all_eq_true.mp nT (b, PySem.W.tabObj #[]) (PySem.W.mem_of_lookupK e)
        exact absurd (show false = true from h2) Bool.false_ne_true)
  have hBm : Bmain mg (hidT s₁.heap H) := by
    obtain ⟨bm, ob, b1, b2, b3, b4, b5, b6⟩ := Bm
    exact ⟨bm, ob, b1, b2, base_of b3 (noH b3 (fun _ _ z => by rw [b6] at z; cases z) (fun _ z => by rw [b6] at z; cases z)), b4, b5, b6⟩
  have hM : Mod K mg (hidT s₁.heap H) := ⟨hKb, nsK hns, ⟨mb, nsK hb, hbb⟩, let ⟨mc, h1, h2⟩ := hlim; ⟨mc, nsK h1, h2⟩⟩
  have e0 : Env0 P w K mg (hidT s₁.heap H) callerA [] s₁ H := ⟨rfl, hM, fun b o e => of_hidT e, Nat.le_of_eq (hidT_size _ _), trivial, fun b hb => absurd (show b ∈ ([] : List Addr) from hb) (by simp), hok, .of_eq hg⟩
  refine codeAny_mono ((F _ hKb (nsK hns) hBm).run callerA [] s₁ H ⟨[.ref a], []⟩ [.ref a] [.ref a] _ _ hr e0 (hbind s₁ (.ref a)) (.cons rfl .nil) (hsp H hS HT)) fun r s' h => ?_
  cases r with
  | error e => exact False.elim h
  | ok fl =>
    cases fl with
    | next => exact False.elim h
    | brk => exact False.elim h
    | cont => exact False.elim h
    | ret u =>
      obtain ⟨v, H', os, bare, un, hok', r', q⟩ := h
      have q' : v = .bl true := q
      subst q'
      obtain rfl : u = Value.bool true := r'
      have nf : ∀ b : Addr, b ∉ frs [] := fun b z => absurd (show b ∈ ([] : List Addr) from z) (by simp)
      refine ⟨rfl, ⟨fun b o e => ?_, fun b o e => un.there b o e (by simp)⟩, os, bare⟩
      cases q : H b with
      | none => exact .inl (un.keep b o e q (nf b) (by simp))
      | some u =>
        rcases Hc b u q with ⟨rfl, rfl, _⟩ | ⟨hb, rfl⟩
        · have z2 := un.frzs b _ _ q
          obtain ⟨e1, _⟩ := hok b _ q
          obtain ⟨e2, _⟩ := hok' b _ z2
          rw [e] at e1; cases e1
          exact .inl e2
        · obtain ⟨more, z2⟩ := un.tbls b _ q
          have e2 : s'.heap.get? b = some { cls := .none, data := .fields (#[] ++ more) } := hok' b _ z2
          rw [(hT b hb).1] at e; cases e
          exact .inr (.inl ⟨(hT b hb).2, rfl, #[], more, rfl, e2⟩)
theorem walk_ofT {l : PySem.W.OpenLaw} {n k : Nat} {q : Program} {loose : List Str} {XP : (Str → Option Value) → Heap → Prop} {YP : World → Heap → Prop} {d : DefRec} {K : Params → PySem.W.Frag} {sp : World → Sp} {x : Str} (tabs : List Addr)
    (hn : l.most = some n) (hn2 : n ≤ sizeLine) (hdf : d.params.defaults = []) (hr : Room k callerA)
    (hY : ∀ (w : World) (h : Heap), YP w h → (K w.params).In h) (nT : ∀ w : World, PySem.W.noTabs (K w.params) = true)
    (hx : ∀ (w : World) (P : Addr), P ∈ tabs → ∃ y e, (recsOf q).find? (fun e => e.name == y) = some e ∧ (PySem.W.tabIn (K w.params) y).map (·.2) = some P)
    (F : ∀ (w : World) (mg : Str → Option Value) (fa : Addr) (h : Heap), (K w.params).In h → h.Ns mainGlobals mg → mg d.name = some (.ref fa) →
      ∃ fd : FuncData, (∀ (s : Shared) (u : Value), BindsTo s fd ⟨[u], []⟩ [(x, u)]) ∧
        ∀ base : Heap, (K w.params).In base → base.Ns mainGlobals mg → Bmain mg base → FnOk l.prog w (K w.params) mg base CX0 k fa fd [x] (sp w))
    (hsp : ∀ (w : World) (H : Hp) (a : Addr) (ns : List Int), ns.length ≤ n → SqL (K w.params) H a (ns.map V.int) → (∀ P ∈ tabs, H P = some (.tbl #[])) → sp w [.ref a] H (fun v _ => v = .bl true) E0) :
    PySem.W.WalkO q loose XP YP l.row.toRowW d [] (fun f vs => PySem.call f vs) := by
  refine Att.attach_call hn hdf fun w s₀ s₁ mg mb fa o pm cd doc a vs ns G Y ho hd hcd hmg hobj hints hlen hg => ?_
  have KX := hY w _ Y
  obtain ⟨fd, hb, hF⟩ := F w mg fa _ KX G.T.g hmg
  have hT : ∀ P ∈ tabs, s₁.heap.get? P = some (PySem.W.tabObj #[]) ∧ isCodeTable s₁.heap P := fun P hP => by
    obtain ⟨y, e, h1, h2⟩ := hx w P hP
    obtain ⟨⟨c, P'⟩, h3, rfl⟩ := Option.map_eq_some_iff.mp h2
    obtain ⟨C, e2⟩ := PySem.W.tab_of G.T KX h1 h3
    exact ⟨e2, (C.tab e2).isCodeTable⟩
  exact law_callT tabs KX G.T.g G.T.b G.T.builtins G.T.nolimit hg hobj hints (Nat.le_trans hlen hn2) hr hT (nT w) G.T.bmain hF hb (fun H hS hH => hsp w H a ns hlen hS hH)
end Hs
set_option Elab.async false
set_option linter.all false
set_option maxRecDepth 100000
set_option maxHeartbeats 1000000
namespace L2
open PySem PySem.Spec PyProof.Rows
section
variable {X : Cx}
def rNotInSet : R2 := fun x y H Q => ∃ i p S n, x = .int i ∧ y = .ref p ∧ H p = some (.set S n) ∧ Q (.bl (!S i)) H
theorem op_notIn_set : OpR X (compareOp .NotIn) rNotInSet := by
  intro pins s σ H x y v u Q I rx ry h
  obtain ⟨i, p, S, n, rfl, rfl, hp, q⟩ := h
  obtain ⟨t, rfl⟩ := rx
  cases ry
  have hS : s.heap.SetOf (intKind X.prog X.w) p S n := I.hok p _ hp
  exact wpAny_notInSet_of (k := i) (intKind_is _ _ _ _) rfl hS ⟨.bl _, H, I.tok _, rfl, q⟩
def rSortA (K : PySem.W.Frag) : List V → Hp → VK → Prop := fun vs H Q => ∃ (a : Addr) (ns : List Int), vs = [V.ref a] ∧ SqL K H a (ns.map V.int) ∧ ∀ (ns' : List Int) (l : Addr), ns'.Perm ns → ns'.Pairwise (· ≤ ·) → H l = none → Q (.ref l) (upd H l (.lst (ns'.map V.int)))
theorem cr_sortA : CallR X (.builtin "sorted") (rSortA X.K) := by
  intro pins s σ H vs us Q I r h
  obtain ⟨a, ns, rfl, hs, q⟩ := h
  obtain ⟨its, rv, hl, hz⟩ := I.list hs
  rw [Vals.ref1 r]
  have hi := rv.ints
  have hil : its.length = ns.length := hi.length
  refine PyProof.Rows.sorted_intsAny hl.isList hi (by rw [← rv.length]; exact hz) fun out ns' h1 h2 h3 => ?_
  obtain ⟨ep, he'⟩ := PyProof.Rows.sortedAll_at s.heap its out
  have hlen : (ns'.map V.int).length ≤ sizeLine := by rw [List.length_map, h2.length_eq]; rw [List.length_map] at hz; exact hz
  exact ⟨.ref _, upd H (s.heap.objs.size + 1) (.lst (ns'.map V.int)), I.laid (t' := s.toks) (fun _ _ => PyProof.Rows.sortedAll_old) (Nat.le_succ _) ⟨hlen, out.toList, ep, vals_of_ints h1, he'⟩, rfl, q ns' _ h2 h3 (I.hok.fresh (Nat.le_succ _))⟩
end
end L2
namespace Hs
open PySem PySem.Spec PyProof.Rows L2
def Loose (H H' : Hp) : Prop := ∀ b o, H b = some o → (∀ ps, o ≠ .tbl ps) → H' b = some o
theorem Loose.refl (H : Hp) : Loose H H := fun _ _ h _ => h
theorem Loose.trans {H H1 H2 : Hp} (a : Loose H H1) (b : Loose H1 H2) : Loose H H2 := fun c o h n => b c o (a c o h n) n
theorem _root_.L2.Same.loose {H H' : Hp} (s : Same H H') : Loose H H' := fun c o h _ => s c o h
theorem Loose.free {H H' : Hp} (l : Loose H H') {b : Addr} (h : H' b = none) (n : ∀ ps, H b ≠ some (.tbl ps)) : H b = none := by
  cases q : H b with
  | none => rfl
  | some o =>
    have := l b o q fun ps z => n ps (by rw [q, z])
    rw [h] at this; cases this
abbrev TabL := List (Addr × Pos × Str)
def Tabs (T : TabL) (H : Hp) : Prop := ∀ t ∈ T, LamTab t.2.1 t.2.2 H t.1
theorem Tabs.tbl {T : TabL} {H : Hp} (h : Tabs T H) {t : Addr × Pos × Str} (m : t ∈ T) : ∃ ps, H t.1 = some (.tbl ps) := let ⟨ps, e, _⟩ := h t m; ⟨ps, e⟩
theorem LamTab.keeps {pos : Pos} {lq : Str} {H H' : Hp} {P : Addr} (h : LamTab pos lq H P) (e : H' P = H P) (l : Loose H H') : LamTab pos lq H' P := by
  obtain ⟨ps, h1, h2, h3⟩ := h
  refine ⟨ps, e.trans h1, h2, ?_⟩
  rcases h3 with h3 | ⟨c, h3, oc, vs, t, k1, k2, k3⟩
  · exact .inl h3
  · exact .inr ⟨c, h3, oc, vs, t, l c _ k1 (fun _ z => nomatch z), k2, k3⟩
theorem Tabs.same {T : TabL} {H H' : Hp} (h : Tabs T H) (s : Same H H') : Tabs T H' := fun t m => by
  obtain ⟨ps, e⟩ := h.tbl m
  exact (h t m).keeps ((s _ _ e).trans e.symm) s.loose
theorem Tabs.lam {T : TabL} {H H' : Hp} {P : Addr} {pos : Pos} {lq : Str} (h : Tabs T H) (hP : ∀ t ∈ T, t.1 = P → t = (P, pos, lq)) (n : LamTab pos lq H' P) (o : LamTab pos lq H P) (k : ∀ b o, b ≠ P → H b = some o → H' b = some o) : Tabs T H' ∧ Loose H H' := by
  have L : Loose H H' := fun b u e nt => by
    obtain ⟨ps, e2, _⟩ := o
    exact k b u (fun z => by rw [z, e2] at e; exact nt ps (Option.some.inj e).symm) e
  refine ⟨fun t m => ?_, L⟩
  by_cases z : t.1 = P
  · rw [hP t m z]; exact n
  · obtain ⟨ps, e⟩ := h.tbl m
    exact (h t m).keeps ((k _ _ z e).trans e.symm) L
structure Rows (H : Hp) (r : Addr) (rows : List (List Int)) : Prop where
  ex : ∃ rs : List Addr, H r = some (.tup (rs.map V.ref)) ∧ rs.length = rows.length ∧ ∀ (j : Nat) (a : Addr) (row : List Int), rs[j]? = some a → rows[j]? = some row → H a = some (.tup (row.map V.int))
theorem Rows.loose {H H' : Hp} {r : Addr} {rows : List (List Int)} (h : Rows H r rows) (l : Loose H H') : Rows H' r rows := by
  obtain ⟨rs, h1, h2, h3⟩ := h
  exact ⟨rs, l _ _ h1 (fun _ z => nomatch z), h2, fun j a row x y => l _ _ (h3 j a row x y) (fun _ z => nomatch z)⟩
theorem Rows.same {H H' : Hp} {r : Addr} {rows : List (List Int)} (h : Rows H r rows) (s : Same H H') : Rows H' r rows := h.loose s.loose
def rowsD (rows : List (List Int)) : PyData := .tuple (rows.map fun row => .tuple (row.map PyData.int))
theorem dpA_row {K : PySem.W.Frag} {H : Hp} : ∀ xs : List Int, DpAll K H (xs.map V.int) (xs.map PyData.int)
  | [] => .nil
  | x :: r => .cons (.int x) (dpA_row r)
theorem Rows.dp {K : PySem.W.Frag} {H : Hp} {r : Addr} {rows : List (List Int)} (h : Rows H r rows) : Dp K H (.ref r) (rowsD rows) := by
  obtain ⟨rs, h1, h2, h3⟩ := h
  refine .tup (SqT.of h1) (dpAll_of rs _ (by rw [List.length_map, h2]) fun j a d e1 e2 => ?_)
  rw [List.getElem?_map] at e2
  obtain ⟨row, e3, rfl⟩ := Option.map_eq_some_iff.mp e2
  exact .tup (SqT.of (h3 j a row e1 e3)) (dpA_row row)
theorem gd_rows {rows : List (List Int)} (h1 : rows.length ≤ 402) (h2 : ∀ row ∈ rows, row.length ≤ 401) : Gd 2 (rowsD rows) := by
  refine Gd.tup (k := 1) (fun d hd => ?_) (by rw [List.length_map]; omega)
  obtain ⟨row, hr, rfl⟩ := List.mem_map.mp hd
  refine Gd.tup (k := 0) (fun d hd => ?_) (by rw [List.length_map]; have := h2 row hr; omega)
  obtain ⟨i, _, rfl⟩ := List.mem_map.mp hd
  exact gd_i 0 i
def onceF (g : Int → List Int) : List Int → List Int → List (List Int)
  | _, [] => []
  | met, h :: r => if h ∈ met then onceF g met r else g h :: onceF g (met ++ g h) r
theorem onceF_mem {g : Int → List Int} : ∀ (hs met : List Int), ∀ row ∈ onceF g met hs, ∃ h ∈ hs, row = g h
  | [], _, row, h => by cases h
  | x :: r, met, row, h => by
    unfold onceF at h
    split at h
    · obtain ⟨y, hy, e⟩ := onceF_mem r met row h
      exact ⟨y, List.mem_cons_of_mem _ hy, e⟩
    · rcases List.mem_cons.mp h with e | h
      · exact ⟨x, by simp, e⟩
      · obtain ⟨y, hy, e⟩ := onceF_mem r _ row h
        exact ⟨y, List.mem_cons_of_mem _ hy, e⟩
theorem onceF_len {g : Int → List Int} : ∀ (hs met : List Int), (onceF g met hs).length ≤ hs.length
  | [], _ => by simp [onceF]
  | x :: r, met => by
    unfold onceF
    split
    · have := onceF_len (g := g) r met; simp; omega
    · have := onceF_len (g := g) r (met ++ g x); simp; omega
def rngL (n : Nat) : List Int := (List.range n).map fun i : Nat => (i : Int)
theorem rngL_mem {n : Nat} {x : Int} : x ∈ rngL n ↔ InR n x := by
  unfold rngL InR
  constructor
  · intro h
    obtain ⟨i, hi, rfl⟩ := List.mem_map.mp h
    have := List.mem_range.mp hi
    omega
  · rintro ⟨h0, h1⟩
    exact List.mem_map.mpr ⟨x.toNat, List.mem_range.mpr (by omega), by omega⟩
theorem rngL_len (n : Nat) : (rngL n).length = n := by unfold rngL; simp
theorem rngL_get {n i : Nat} (h : i < n) : (rngL n)[i]? = some (i : Int) := by
  unfold rngL
  rw [List.getElem?_map, List.getElem?_range h]; rfl
end Hs
set_option Elab.async false
set_option linter.all false
set_option maxRecDepth 100000
set_option maxHeartbeats 1000000
namespace Hs
open PySem PySem.Spec PySem.Calls PyProof.Rows L2
def spOnce (P : Program) (w : World) (K : PySem.W.Frag) (mg : Str → Option Value) (base : Heap) (kc : Nat) : SpS := fun s outer vs H Q => ∃ (lh f : Addr) (hs : List Int) (dom : Int → Prop) (g : Int → List Int), vs = [.ref lh, .ref f] ∧ H lh = some (.lst (hs.map V.int)) ∧ hs.length ≤ 400 ∧
  Callable P w K mg base kc outer s H f dom g ∧ (∀ h ∈ hs, dom h ∧ ∀ z ∈ g h, InR 400 z) ∧ ∀ r H', Same H H' → H r = none → Rows H' r (onceF g [] hs) → Q (.ref r) H'
def spLam (X : Cx) (params : Arguments) (body : Expr) (scope : Scope) (pn : Str) (fs : List Str) (k : Nat) : L2.St → List V → Hp → VK → Prop := fun σ vs H3 Q =>
  ∃ (lh f c' : Addr) (ctv : Value) (hs : List Int) (vals : List V) (dom : Int → Prop) (g : Int → List Int), vs = [.ref lh, .ref f] ∧ H3 lh = some (.lst (hs.map V.int)) ∧ hs.length ≤ 400 ∧ H3 f = some (.frz (lamObj X.mg X.env params body scope c' ctv) (.own 0)) ∧ CodeOf H3 c' (X.env.qual ++ "<lambda>") ∧ Cap X σ fs vals ∧
    (∀ (A : Around) (outer' : List Env) (s' : Shared) (H' : Hp) (h : Int) (Q : VK), Room k (A.deeper (PySem.W.envX (X.env.qual ++ "<lambda>") scope s'.heap.objs.size f (.ref c') (cloFrom X.env.cells scope.names []))) → Same H3 H' → dom h → (∀ r H2, Same H' H2 → H' r = none → H2 r = some (.tup ((g h).map V.int)) → Q (.ref r) H2) →
      ∃ t, PE (cxLam X.prog X.w X.K X.mg X.base (pn :: fs) (PySem.W.envX (X.env.qual ++ "<lambda>") scope s'.heap.objs.size f (.ref c') (cloFrom X.env.cells scope.names [])) A outer' s' H') body t ∧ t (some (.int h) :: vals.map some) H' Q) ∧
    (∀ h ∈ hs, dom h ∧ ∀ z ∈ g h, InR 400 z) ∧ ∀ r H', Same H3 H' → H3 r = none → Rows H' r (onceF g [] hs) → Q (.ref r) H'
def tOnce (X : Cx) (params : Arguments) (body : Expr) (scope : Scope) (lpos : Pos) (T : Addr) (pn : Str) (fs : List Str) (k : Nat) (t1 : TE) : TE := tCallS (spLam X params body scope pn fs k) (tCons t1 (tCons (tLam X.mg X.env params body scope lpos T) tNil))
theorem pe_once {X : Cx} {x : Str} {p pos lpos : Pos} {e1 : Expr} {t1 : TE} {params : Arguments} {body : Expr} {scope : Scope} {c T : Addr} {pn : Str} {fs ps : List Str} {k j jo : Nat} (FO : FnS X.prog X.w X.K X.mg X.base x ps jo (spOnce X.prog X.w X.K X.mg X.base (k + 1))) (hr : Room j X.A) (hk : jo ≤ j)
    (hdef : defaultsOf params X.env = ([], [])) (hcl : ∀ y ∈ scope.names, y.2 = .free → ∃ cc, X.env.cells.lookup y.1 = some cc) (hcode : X.env.code = .ref c) (C : PySem.W.CodeHd X.base c T) (Bm : Bmain X.mg X.base) (hfn : ∀ y, X.fn y = true) (S : LamScope scope pn fs)
    (hbind : ∀ (c' : Addr) (ctv u : Value), bindArgs (PySem.W.kla_fn "<lambda>" (X.env.qual ++ "<lambda>") params body scope (cloFrom X.env.cells scope.names []) ((X.mg "__name__").getD .none) (.ref c') ctv) ⟨[u], []⟩ = pure [(pn, u)])
    (ha : PE X e1 t1) (hg : Gl X x := by rfl) (hdb : (x == ("__debug__" : Str)) = false := by decide)
    (he : starEach [e1, .Lambda params body scope lpos] X.env = (false, eval e1 X.env) :: starEach [.Lambda params body scope lpos] X.env := by rfl) (hpl : (backTo pos (starEach [.Lambda params body scope lpos] X.env)).any (·.1) = false := by rfl)  :
    PE X (.Call (.Name x p) [e1, .Lambda params body scope lpos] [] pos) (tOnce X params body scope lpos T pn fs k t1) := by
  refine pe_callS (spH := spLam X params body scope pn fs k) FO hr hk (fun pins σ H3 s vs Q I h => ?_) (pa_cons ha (pa_cons (pe_lam hdef hcl hcode C Bm) pa_nil) he) hg hdb he hpl
  obtain ⟨lh, f, c', ctv, hs, vals, dom, g, rfl, hlh, hlen, hf, hc, cap, hbody, hd, q⟩ := h
  exact ⟨lh, f, hs, dom, g, rfl, hlh, hlen, lam_callable I hfn S hcl cap hf hc (hbind c' ctv) hbody, hd, q⟩
end Hs
set_option Elab.async false
set_option linter.all false
set_option maxRecDepth 100000
set_option maxHeartbeats 1000000
namespace L2
open PySem PySem.Spec PyProof.Rows
end L2
namespace Hs
open PySem PySem.Spec PyProof.Rows L2
theorem once_skip {g : Int → List Int} {h : Int} {met r : List Int} (m : h ∈ met) : onceF g met (h :: r) = onceF g met r := by
  show (if h ∈ met then _ else _) = _
  rw [if_pos m]
theorem once_take {g : Int → List Int} {h : Int} {met r : List Int} (m : h ∉ met) : onceF g met (h :: r) = g h :: onceF g (met ++ g h) r := by
  show (if h ∈ met then _ else _) = _
  rw [if_neg m]
end Hs
set_option Elab.async false
set_option linter.all false
set_option maxRecDepth 100000
set_option maxHeartbeats 2000000
namespace Hs
open PySem L2
section
variable {P : Program} {w : World} {K : PySem.W.Frag} {mg : Str → Option Value} {base : Heap} {f : Addr} {fd : FuncData} {cN cR : Addr}
theorem scHal : FnScope ["skin"] ["skin"] (defScope s_all_halves) := ⟨rfl, rfl, rfl, by decide +kernel, rfl, by decide +kernel, by decide +kernel⟩
def spHal : Sp := fun vs H Q _ => ∃ (p : Addr) (on : List Int) (ms : List (Option Int)), vs = [.ref p] ∧ SkAt H p on ms ∧ ∀ l H', Same H H' → H l = none → H' l = some (.lst ((rngL on.length).map V.int)) → Q (.ref l) H'
theorem ok_halves (B : Bi mg) (F : Fun K "all_halves" "all_halves" s_all_halves f fd) : FnOk P w K mg base CX0 1 f fd ["skin"] spHal := by
  refine F.ok scHal (fun vs H Q E h => ?_) (fun cdv A outer s H vs Q E hr h => ?_)
  · obtain ⟨p, on, ms, rfl, _⟩ := h; rfl
  obtain ⟨p, on, ms, rfl, ⟨sk, po, pm, h1, h2, h3⟩, q⟩ := h
  have hle := sk.le
  refine ⟨_, (pss_one (ps_ret (pe_callTy (call_list_rng rfl) rfl B.list_ bt_list (pa_cons (pe_callTy call_range1 rfl B.range_ bt_range (pa_cons (pe_callB call_len_seq rfl B.len_ bt_len (pa_cons (pe_ix ix_tup (pv 0) pe_int (fun _ _ => rfl)) pa_nil)) pa_nil)) pa_nil)))), ?_⟩
  refine ⟨_, rfl, p, _, _, .ref po, rfl, rfl, SqT.of h1, at0 _ _, po, _, rfl, .inr (SqT.of h2), ?_⟩
  rw [show ((on.map V.int).length : Int) = (on.length : Int) by rw [List.length_map]]
  refine ⟨_, rfl, fun pr hpr => ⟨pr, _, _, rfl, upd_same, by omega, by omega, by omega, by omega, ?_, fun ph hph => ?_⟩⟩
  · rw [sizeLine_eq]; omega
  rw [show ((on.length : Int) - 0).toNat = on.length by omega, ints_to]
  exact q ph _ ((same_put hpr _).trans (same_put hph _)) ((same_put hpr _).free hph) upd_same
theorem scOnce : FnScope ["halves", "walk_from", "met", "told", "half", "walk", "one"] ["halves", "walk_from"] (defScope s_each_once) := ⟨rfl, rfl, rfl, by decide +kernel, rfl, by decide +kernel, by decide +kernel⟩
theorem ok_once (B : Bi mg) (F : Fun K "each_once" "each_once" s_each_once f fd) (bn : Binds K fd ["halves", "walk_from"] []) (m : mg "each_once" = some (.ref f)) : FnS P w K mg base "each_once" ["halves", "walk_from"] 6 (spOnce P w K mg base 5) := by
  refine fnS_of (k := 5) F scOnce bn m (fun s o vs H Q h => ?_) (fun cdv A outer s H vs Q hr h => ?_)
  · obtain ⟨lh, f, hs, dom, g, rfl, _⟩ := h; rfl
  obtain ⟨lh, fv, hs, dom, g, rfl, hlh, hlen, Cb, hd, q⟩ := h
  refine ⟨_, (pss_cons (ps_set (i := 2) scOnce.nd rfl (Or.inl rfl) (pe_callTy0 call_set0 rfl B.set_ bt_set))
   (pss_cons (ps_set (i := 3) scOnce.nd rfl (Or.inl rfl) (pe_lst pa_nil))
   (pss_cons (ps_for PassesOwn.never rfl (pi_list (pv 0)) (pg_name (i := 4) scOnce.nd rfl (Or.inl rfl))
   (pss_one (ps_if (pt_cmpR op_notIn_set (pv 4) (pv 2) rfl)
   (pss_cons (ps_set (i := 5) scOnce.nd rfl (Or.inl rfl) (pe_callV Cb rfl hr (by decide) (i := 1) rfl rfl (pa_cons (pv 4) pa_nil)))
   (pss_cons (ps_expr (pe_bm PySem.F.plainAttrs_list PySem.F.slot_list_append PySem.F.type_list_append mt_append (pv 3) (pa_cons (pv 5) pa_nil)))
   (pss_one (ps_for PassesOwn.never rfl (pi_tup (pv 5)) (pg_name (i := 6) scOnce.nd rfl (Or.inl rfl))
   (pss_one (ps_expr (pe_bm PySem.F.plainAttrs_set PySem.F.slot_set_add PySem.F.type_set_add mt_setadd (pv 2) (pa_cons (pv 6) pa_nil))))))))
   pss_nil)))
   (pss_one (ps_ret (pe_callTy call_tuple_of rfl B.tuple_ bt_tuple (pa_cons (pv 3) pa_nil))))))), ?_⟩
  refine ⟨rfl, fun lm hlm => ⟨(by show 0 ≤ sizeLine; decide), fun lt hlt => ?_⟩⟩
  have flt : H lt = none := (same_put hlm (.set (fun _ => false) 0)).free hlt
  have nlt : lm ≠ lt := ne_of_none upd_same hlt
  have s0 := (same_put hlm (.set (fun _ => false) 0)).trans (same_put hlt (.lst []))
  refine ⟨_, rfl, lh, rfl, ⟨_, SqL.of (s0 _ _ hlh)⟩, for_list (K := K) (a := lh) (xs := hs.map V.int)
    (fun i σ H1 => ∃ (rs : List Addr) (rows : List (List Int)) (met ml : List Int) (S : Int → Bool) (v4 v5 v6 : Option V), σ = [some (.ref lh), some (.ref fv), some (.ref lm), some (.ref lt), v4, v5, v6] ∧ Same H H1 ∧ H1 lm = some (.set S ml.length) ∧ H1 lt = some (.lst (rs.map V.ref)) ∧
      rs.length = rows.length ∧ (∀ (j : Nat) (a : Addr) (row : List Int), rs[j]? = some a → rows[j]? = some row → H1 a = some (.tup (row.map V.int))) ∧ (∀ z, S z = true ↔ z ∈ met) ∧ ml.Nodup ∧ (∀ z, z ∈ ml ↔ z ∈ met) ∧ (∀ z ∈ met, InR 400 z) ∧ onceF g [] hs = rows ++ onceF g met (hs.drop i) ∧ rows.length ≤ i)
    ⟨[], [], [], [], fun _ => false, _, _, _, rfl, s0, up hlt upd_same, upd_same, rfl, fun j a row h => by simp at h, fun z => by simp, List.nodup_nil, fun z => Iff.rfl, fun z h => (by cases h), rfl, Nat.le_refl _⟩
    (fun i σ H1 _ ⟨_, _, _, _, _, _, _, _, _, s1, _⟩ => SqL.of (s1 _ _ hlh)) ?_ ?_⟩
  · rintro i x σ H1 hx ⟨rs, rows, met, ml, S, v4, v5, v6, rfl, s1, hm, ht, hl, hrow, hS, nd, hml, hin, eq, hri⟩
    rw [List.getElem?_map] at hx
    obtain ⟨h, hh, rfl⟩ := Option.map_eq_some_iff.mp hx
    obtain ⟨hil, ehh⟩ := List.getElem?_eq_some_iff.mp hh
    have hmem : h ∈ hs := List.mem_of_getElem? hh
    have hdrop : hs.drop i = h :: hs.drop (i + 1) := by rw [List.drop_eq_getElem_cons hil, ehh]
    refine ⟨_, rfl, _, rfl, h, lm, _, _, rfl, rfl, hm, _, rfl, ite2 (fun c => ?_) (fun c => ?_)⟩
    · have nm : h ∉ met := fun z => by rw [(hS h).mpr z] at c; exact absurd c (by decide)
      refine ⟨rfl, s1, _, rfl, h, rfl, s1, (hd h hmem).1, fun r H2 s2 f2 e2 => ?_⟩
      have fr : H r = none := s1.free f2
      have nr : r ≠ lt := fun z => by rw [z, ht] at f2; cases f2
      have nrm : r ≠ lm := fun z => by rw [z, hm] at f2; cases f2
      refine ⟨_, rfl, .inl ⟨rfl, _, SqL.of (s2 _ _ ht)⟩, _, rfl, lt, _, _, rfl, rfl, s2 _ _ ht, ?_, ?_⟩
      · rw [List.length_map, sizeLine_eq]; omega
      have ht3 : upd H2 lt (.lst (rs.map V.ref ++ [.ref r])) lt = some (.lst ((rs ++ [r]).map V.ref)) := by rw [upd_same, List.map_append]; rfl
      have hm3 : upd H2 lt (.lst (rs.map V.ref ++ [.ref r])) lm = some (.set S ml.length) := by rw [upd_ne nlt]; exact s2 _ _ hm
      have e3 : upd H2 lt (.lst (rs.map V.ref ++ [.ref r])) r = some (.tup ((g h).map V.int)) := by rw [upd_ne nr]; exact e2
      have s3 : Same H (upd H2 lt (.lst (rs.map V.ref ++ [.ref r]))) := same_set (s1.trans s2) flt
      have row3 : ∀ (j : Nat) (a : Addr) (row : List Int), rs[j]? = some a → rows[j]? = some row → upd H2 lt (.lst (rs.map V.ref ++ [.ref r])) a = some (.tup (row.map V.int)) := fun j a row h1 h2 => by
        have z := s2 _ _ (hrow j a row h1 h2)
        rw [upd_ne (fun y => by rw [y, s2 _ _ ht] at z; cases z)]; exact z
      generalize upd H2 lt (.lst (rs.map V.ref ++ [.ref r])) = H3 at ht3 hm3 e3 s3 row3 ⊢
      refine ⟨_, rfl, r, rfl, ⟨_, SqT.of e3⟩, for_tup (K := K) (a := r) (xs := (g h).map V.int)
        (fun j σ H4 => ∃ (ml4 : List Int) (S4 : Int → Bool) (v6 : Option V), σ = [some (.ref lh), some (.ref fv), some (.ref lm), some (.ref lt), some (.int h), some (.ref r), v6] ∧ (∀ b, b ≠ lm → H4 b = H3 b) ∧ H4 lm = some (.set S4 ml4.length) ∧ (∀ z, S4 z = true ↔ z ∈ met ++ (g h).take j) ∧ ml4.Nodup ∧ ∀ z, z ∈ ml4 ↔ z ∈ met ++ (g h).take j)
        ⟨ml, S, _, rfl, fun _ _ => rfl, hm3, fun z => by rw [List.take_zero, List.append_nil]; exact hS z, nd, fun z => by rw [List.take_zero, List.append_nil]; exact hml z⟩ (fun j σ H4 _ ⟨_, _, _, _, k4, _⟩ => SqT.of ((k4 r nrm).trans e3)) ?_ ?_⟩
      · rintro j z σ H4 hz ⟨ml4, S4, v6, rfl, k4, hm4, hS4, nd4, hml4⟩
        rw [List.getElem?_map] at hz
        obtain ⟨y, hy, rfl⟩ := Option.map_eq_some_iff.mp hz
        obtain ⟨hjl, ey⟩ := List.getElem?_eq_some_iff.mp hy
        have ing : ∀ z ∈ met ++ (g h).take j, InR 400 z := fun z hz => by
          rcases List.mem_append.mp hz with q | q
          · exact hin z q
          · exact (hd h hmem).2 z (List.mem_of_mem_take q)
        have ml400 := nd_len 400 ml4 nd4 fun z hz => ing z ((hml4 z).mp hz)
        refine ⟨_, rfl, .inr (.inr (.inr (.inr ⟨rfl, _, _, hm4⟩))), _, rfl, lm, y, S4, ml4.length, rfl, rfl, hm4, by omega, ?_⟩
        have tk : (g h).take (j + 1) = (g h).take j ++ [y] := by rw [List.take_succ_eq_append_getElem hjl, ey]
        by_cases sy : S4 y = true
        · refine ⟨ml4, _, _, rfl, fun b hb => by rw [upd_ne hb]; exact k4 b hb, by rw [upd_same, if_pos sy], fun z => ?_, nd4, fun z => ?_⟩
          · rw [tk, ← List.append_assoc, List.mem_append, Bool.or_eq_true, hS4 z]
            simp
          · rw [tk, ← List.append_assoc, List.mem_append, hml4 z]
            constructor
            · exact .inl
            · rintro (q | q)
              · exact q
              · rw [List.mem_singleton.mp q]; exact (hS4 y).mp sy
        · have ny : y ∉ ml4 := fun q => sy ((hS4 y).mpr ((hml4 y).mp q))
          refine ⟨ml4 ++ [y], _, _, rfl, fun b hb => by rw [upd_ne hb]; exact k4 b hb, by rw [upd_same, if_neg sy, List.length_append]; rfl, fun z => ?_, ?_, fun z => ?_⟩
          · rw [tk, ← List.append_assoc, List.mem_append, Bool.or_eq_true, hS4 z]
            simp
          · rw [List.nodup_append]
            exact ⟨nd4, by simp, fun a ha b hb => by rw [List.mem_singleton.mp hb]; exact fun q => ny (q ▸ ha)⟩
          · rw [tk, ← List.append_assoc, List.mem_append, List.mem_append, hml4 z]
      · rintro σ H4 ⟨ml4, S4, v6, rfl, k4, hm4, hS4, nd4, hml4⟩
        have tk : (g h).take ((g h).map V.int).length = g h := by rw [List.length_map, List.take_length]
        rw [tk] at hS4 hml4
        have s4 : Same H H4 := fun b o e => by
          rw [k4 b (ne_of_none e hlm)]; exact s3 b o e
        refine ⟨rs ++ [r], rows ++ [g h], met ++ g h, ml4, S4, _, _, _, rfl, s4, hm4, (k4 lt (Ne.symm nlt)).trans ht3, by rw [List.length_append, List.length_append, hl]; rfl, fun j a row h1 h2 => ?_, hS4, nd4, hml4, fun z hz => ?_, ?_, by rw [List.length_append]; simp; omega⟩
        · have z : H3 a = some (.tup (row.map V.int)) := by
            rcases Nat.lt_or_ge j rs.length with q | q
            · rw [List.getElem?_append_left q] at h1
              rw [List.getElem?_append_left (by rw [← hl]; exact q)] at h2
              exact row3 j a row h1 h2
            · rw [List.getElem?_append_right q] at h1
              rw [List.getElem?_append_right (by rw [← hl]; exact q)] at h2
              have j0 : j - rs.length = 0 := by
                rcases Nat.eq_zero_or_pos (j - rs.length) with z | z
                · exact z
                · rw [List.getElem?_eq_none (by simp only [List.length_singleton]; omega)] at h1; cases h1
              rw [j0] at h1
              rw [← hl, j0] at h2
              cases h1; cases h2
              exact e3
          rw [k4 a (fun y => by rw [y, hm3] at z; cases z)]; exact z
        · rcases List.mem_append.mp hz with q | q
          · exact hin z q
          · exact (hd h hmem).2 z q
        · rw [eq, hdrop]
          show rows ++ (if h ∈ met then _ else _) = _
          rw [if_neg nm, List.append_assoc]; rfl
    · have im : h ∈ met := by
        refine (hS h).mp ?_
        cases z : S h with
        | true => rfl
        | false => rw [z] at c; exact absurd rfl c
      refine ⟨rs, rows, met, ml, S, _, _, _, rfl, s1, hm, ht, hl, hrow, hS, nd, hml, hin, ?_, by omega⟩
      rw [eq, hdrop]
      show rows ++ (if h ∈ met then _ else _) = _
      rw [if_pos im]
  · rintro σ H1 ⟨rs, rows, met, ml, S, v4, v5, v6, rfl, s1, hm, ht, hl, hrow, hS, nd, hml, hin, eq, hri⟩
    rw [List.length_map, List.drop_length] at eq
    have eq : onceF g [] hs = rows := by rw [eq]; unfold onceF; simp
    refine ⟨_, rfl, lt, _, rfl, .inl ⟨SqL.of ht, fun r hr => ?_⟩⟩
    refine q r _ (s1.trans (same_put hr _)) (s1.free hr) ⟨rs, upd_same, by rw [eq]; exact hl, fun j a row h1 h2 => ?_⟩
    rw [eq] at h2
    exact up hr (hrow j a row h1 h2)
def lamAt (st : Stmt) : Expr := match (defBody st).getLast? with
  | some (.Return (some (.Call _ [_, e] _ _)) _) => e
  | _ => .Name "" ⟨0, 0, 0, 0⟩
def lamScope (st : Stmt) : Scope := match lamAt st with
  | .Lambda _ _ s _ => s
  | _ => { kind := .function, names := [], isGenerator := false, isCoroutine := false }
def lamPos (st : Stmt) : Pos := match lamAt st with
  | .Lambda _ _ _ p => p
  | _ => ⟨0, 0, 0, 0⟩
def tabOf (T : Addr) (n : Str) (st : Stmt) : Addr × Pos × Str := (T, lamPos st, n ++ ".<locals>." ++ "<lambda>")
def spAllW (T : TabL) (g : List Int → List (Option Int) → Int → List Int) (hs : List Int → List (Option Int) → List Int) : Sp := fun vs H Q _ => ∃ (p : Addr) (on : List Int) (ms : List (Option Int)), vs = [.ref p] ∧ SkAt H p on ms ∧ Tabs T H ∧
  ∀ r H', Loose H H' → Tabs T H' → Rows H' r (onceF (g on ms) [] (hs on ms)) → Q (.ref r) H'
theorem SkAt.loose {H H' : Hp} {p : Addr} {on : List Int} {ms : List (Option Int)} (S : SkAt H p on ms) (s : Loose H H') : SkAt H' p on ms := by
  obtain ⟨k, po, pm, h1, h2, h3⟩ := S
  exact ⟨k, po, pm, s _ _ h1 (fun _ z => nomatch z), s _ _ h2 (fun _ z => nomatch z), s _ _ h3 (fun _ z => nomatch z)⟩
end
end Hs
set_option Elab.async false
set_option linter.all false
set_option maxRecDepth 100000
namespace Hs
open PySem PySem.Spec PySem.Calls PyProof.Rows PySem.W
section
variable {prog : Program} {w : World} {A : Around} {E : Value → Shared → Prop} {h : Heap} {g : Array GenState} {d : Drawn} {t : Nat} {os : OsState}
variable {nm q : Str} {C N : Addr} {bs bm bmB : List Value} {hdct : Bool} {sn : List Str} {sub : List Value} {ab : Bool} {col : Option Bool} {dd : Option Addr} {k0 k1 k2 k3 k5 : Option Value} {B newId initId : String}
end
section
variable {prog : Program} {w : World} {A : Around} {E : Value → Shared → Prop} {s : Shared} {K : Frag} {C S x : Addr} {name : Str} {v : Value}
end
end Hs
set_option Elab.async false
set_option linter.all false
set_option maxRecDepth 100000
namespace Hs
open PySem PySem.Spec PySem.Calls PyProof.Rows PySem.W
section
variable {prog : Program} {w : World} {M : Model} {A : Around} {E : Value → Shared → Prop} {h : Heap} {g : Array GenState} {d : Drawn} {t : Nat} {os : OsState}
end
end Hs
set_option Elab.async false
set_option linter.all false
set_option maxRecDepth 100000
namespace Hs
open PySem PySem.Spec PySem.Calls PyProof.Rows PySem.W L2
section
variable {M : Model} {prog : Program} {w : World} {A : Around} {E : Value → Shared → Prop} {s : Shared}
end
section
variable {prog : Program} {w : World} {A : Around} {E : Value → Shared → Prop} {s : Shared} {K : Frag} {mg : Str → Option Value} {base : Heap} {C S fI e tt : Addr} {p fld : Str} {pts : List PySem.Expr} {tp : Pos} {v a1 a2 a3 a4 a5 : Value}
end
end Hs
set_option Elab.async false
set_option linter.all false
set_option maxRecDepth 100000
namespace Hs
open PySem PySem.Spec PySem.Calls PyProof.Rows PySem.W
section
variable {prog : Program} {w : World} {A : Around} {E : Value → Shared → Prop} {h : Heap} {g : Array GenState} {d : Drawn} {t : Nat} {os : OsState} {K : Frag} {a C : Addr} {o : Obj} {od : Obj} {f : Str} {v : Value}
theorem lookIn_ns {dx : Addr} {m : Str → Option Value} (hn : h.Ns1 dx m) (ho : h.get? dx = some od) (hv : m f = some v) : lookIn f od = some (some v) := by
  obtain ⟨o, es, ep, e, hd, _, _, hf⟩ := hn
  cases e.symm.trans ho
  unfold lookIn
  rw [hd]
  have q := (hf f).trans hv
  unfold nsFind findBy at q
  rw [← Array.find?_toList] at q
  dsimp only
  cases z : es.toList.find? (·.key.isStr f) with
  | none => rw [z] at q; cases q
  | some en => rw [z] at q; exact congrArg _ q
end
end Hs
namespace Hs
open PySem PySem.Spec PyProof.Rows L2
def XO (e C : Addr) (od : Option Addr) : HO := .ext fun h => ∃ vs sl, h.get? e = some ⟨.ref C, od, .fields vs, sl⟩
section
variable {X : Cx} {e C S fI : Addr} {b : Bool} {cv : V} {cu : Value} {od : Option Addr} {x f p fld : Str} {np cpos pos : Pos} {a : Expr} {ta : TE} {t : TA} {j : Nat} {pts : List Expr} {tp : Pos}
def Kept (H : Hp) (e C : Addr) (od : Option Addr) : Prop := H e = some (XO e C od) ∧ (od = none ∨ ∃ dx fs, od = some dx ∧ H dx = some (.xd fs))
theorem Kept.same {H H' : Hp} (k : Kept H e C od) (s : Same H H') : Kept H' e C od := ⟨s _ _ k.1, k.2.imp id fun ⟨dx, fs, a, b⟩ => ⟨dx, fs, a, s _ _ b⟩⟩
end
section
variable {X : Cx} {e C S fI : Addr} {b : Bool} {cv : V} {cu : Value} {od : Option Addr} {x f p fld : Str} {np cpos pos : Pos} {a : Expr} {ta : TE} {t : TA} {j : Nat} {pts : List Expr} {tp : Pos}
end
end Hs
set_option Elab.async false
set_option linter.all false
set_option maxRecDepth 100000
namespace Hs
open PySem PySem.Spec PySem.Calls PyProof.Rows
section
variable {M : Model} {prog : Program} {w : World} {A : Around} {E : Value → Shared → Prop} {env : Env}
variable {nm q : Str} {C N : Addr} {bs bm : List Value} {hdct : Bool} {sn : List Str} {sub : List Value} {ab : Bool} {col : Option Bool} {dd : Option Addr} {k0 k1 k2 k3 k5 : Option Value} {newId : String}
end
end Hs
namespace Hs
open PySem PySem.Spec PyProof.Rows L2
section
variable {X : Cx} {E : L2.St → XK} {e C S fI : Addr} {b : Bool} {cv : V} {cu : Value} {od : Option Addr} {x f p fld : Str} {np cpos pos : Pos} {a : Expr} {ta : TE} {t : TA} {j : Nat} {pts : List Expr} {tp : Pos} {oe : Obj}
def OdOk (H : Hp) (od : Option Addr) : Prop := od = none ∨ ∃ dx fs, od = some dx ∧ H dx = some (.xd fs)
theorem OdOk.same {H H' : Hp} (k : OdOk H od) (s : Same H H') : OdOk H' od := k.imp id fun ⟨dx, fs, a, b⟩ => ⟨dx, fs, a, s _ _ b⟩
end
end Hs
set_option Elab.async false
set_option linter.all false
set_option maxRecDepth 100000
namespace Hs
open PySem PySem.Spec PyProof.Rows L2
section
variable {X : Cx} {E : L2.St → XK} {S S2 : Addr} {x x2 n : Str} {np hpos np2 hpos2 pos : Pos} {b0 b02 : Stmt} {body suite suite2 : List Stmt} {tb : TS} {th th2 : Addr → Obj → TS} {i : Nat}
end
end Hs
set_option Elab.async false
set_option linter.all false
set_option maxRecDepth 100000
set_option maxHeartbeats 1000000
namespace Hs
open PySem L2
section
variable {P : Program} {w : World} {K : PySem.W.Frag} {mg : Str → Option Value} {base : Heap} {f : Addr} {fd : FuncData} {cN cS cR : Addr} {D : Nat → Addr}
end
end Hs
set_option Elab.async false
set_option linter.all false
set_option maxRecDepth 100000
set_option maxHeartbeats 1000000
namespace PySem
namespace SetTable
def Ris (xs : Array Nat) : Prop := xs.toList.Pairwise (· < ·)
theorem Ris.at {xs : Array Nat} (R : Ris xs) {a b x y : Nat} (ha : xs[a]? = some x) (hb : xs[b]? = some y) (h : a < b) : x < y := by
  rw [← Array.getElem?_toList] at ha hb
  obtain ⟨h1, e1⟩ := List.getElem?_eq_some_iff.mp ha
  obtain ⟨h2, e2⟩ := List.getElem?_eq_some_iff.mp hb
  rw [← e1, ← e2]
  exact List.pairwise_iff_getElem.mp R a b h1 h2 h
def Cuts (xs : Array Nat) (j r : Nat) : Prop := r ≤ xs.size ∧ (∀ i x, i < r → xs[i]? = some x → x < j) ∧ ∀ i x, r ≤ i → xs[i]? = some x → j ≤ x
theorem below_go {xs : Array Nat} {j : Nat} (R : Ris xs) : ∀ fuel lo hi, hi - lo ≤ fuel → lo ≤ hi → hi ≤ xs.size → (∀ i x, i < lo → xs[i]? = some x → x < j) → (∀ i x, hi ≤ i → xs[i]? = some x → j ≤ x) → Cuts xs j (below.go xs j fuel lo hi)
  | 0, lo, hi, h1, h2, h3, h4, h5 => by
    have : lo = hi := by omega
    subst this
    exact ⟨h3, h4, h5⟩
  | fuel + 1, lo, hi, h1, h2, h3, h4, h5 => by
    unfold below.go
    by_cases c : lo < hi
    · rw [if_pos c]
      dsimp only
      have hm : (lo + hi) / 2 < xs.size := by omega
      have em : xs[(lo + hi) / 2]? = some (xs[(lo + hi) / 2]) := Array.getElem?_eq_getElem hm
      have eg : xs.getD ((lo + hi) / 2) j = xs[(lo + hi) / 2] := by simp [Array.getD, hm]
      by_cases c2 : xs.getD ((lo + hi) / 2) j < j
      · rw [if_pos c2]
        rw [eg] at c2
        refine below_go R fuel _ hi (by omega) (by omega) h3 (fun i x hi' ex => ?_) h5
        rcases Nat.lt_or_ge i ((lo + hi) / 2) with z | z
        · exact Nat.lt_trans (R.at ex em z) c2
        · have : i = (lo + hi) / 2 := by omega
          subst this
          rw [em] at ex
          rw [← Option.some.inj ex]; exact c2
      · rw [if_neg c2]
        rw [eg] at c2
        refine below_go R fuel lo _ (by omega) (by omega) (by omega) h4 (fun i x hi' ex => ?_)
        rcases Nat.lt_or_ge ((lo + hi) / 2) i with z | z
        · have := R.at em ex z; omega
        · have : i = (lo + hi) / 2 := by omega
          subst this
          rw [em] at ex
          rw [← Option.some.inj ex]; omega
    · rw [if_neg c]
      have : lo = hi := by omega
      subst this
      exact ⟨h3, h4, h5⟩
theorem below_cuts {xs : Array Nat} (R : Ris xs) (j : Nat) : Cuts xs j (below xs j) :=
  below_go R _ 0 _ (Nat.le_refl _) (Nat.zero_le _) (Nat.le_refl _) (fun i x h => absurd h (Nat.not_lt_zero _)) fun i x h e => by
    have := (Array.getElem?_eq_some_iff.mp e).1
    omega
theorem Cuts.one {xs : Array Nat} {j r r' : Nat} (h : Cuts xs j r) (h' : Cuts xs j r') : r = r' := by
  rcases Nat.lt_trichotomy r r' with z | z | z
  · have hr : r < xs.size := Nat.lt_of_lt_of_le z h'.1
    have e := Array.getElem?_eq_getElem hr
    have a := h.2.2 r _ (Nat.le_refl _) e
    have b := h'.2.1 r _ z e
    omega
  · exact z
  · have hr : r' < xs.size := Nat.lt_of_lt_of_le z h.1
    have e := Array.getElem?_eq_getElem hr
    have a := h'.2.2 r' _ (Nat.le_refl _) e
    have b := h.2.1 r' _ z e
    omega
theorem below_zero {xs : Array Nat} (R : Ris xs) : below xs 0 = 0 :=
  (below_cuts R 0).one ⟨Nat.zero_le _, fun i x h => absurd h (Nat.not_lt_zero _), fun _ _ _ _ => Nat.zero_le _⟩
theorem below_succ {xs : Array Nat} (R : Ris xs) {i x : Nat} (e : xs[i]? = some x) : below xs (x + 1) = i + 1 := by
  refine (below_cuts R _).one ⟨(Array.getElem?_eq_some_iff.mp e).1, fun k y h ey => ?_, fun k y h ey => ?_⟩
  · rcases Nat.lt_or_ge k i with z | z
    · have := R.at ey e z; omega
    · have : k = i := by omega
      subst this
      rw [e] at ey
      have := Option.some.inj ey
      omega
  · exact R.at e ey (by omega)
theorem Ris.put {xs : Array Nat} (R : Ris xs) {j : Nat} (h : xs[below xs j]? ≠ some j) : Ris (insertAt xs (below xs j) j) := by
  have c := below_cuts R j
  generalize below xs j = p at c h
  obtain ⟨c1, c2, c3⟩ := c
  unfold Ris
  rw [toList_insertAt]
  have hlt : ∀ x ∈ xs.toList.take p, x < j := fun x hx => by
    obtain ⟨i, hi, e⟩ := List.getElem_of_mem hx
    rw [List.getElem_take] at e
    rw [List.length_take] at hi
    exact c2 i x (by omega) (by rw [← Array.getElem?_toList, List.getElem?_eq_getElem (by omega), e])
  have hgt : ∀ x ∈ xs.toList.drop p, j < x := fun x hx => by
    obtain ⟨i, hi, e⟩ := List.getElem_of_mem hx
    rw [List.getElem_drop] at e
    rw [List.length_drop] at hi
    have ex : xs[p + i]? = some x := by rw [← Array.getElem?_toList, List.getElem?_eq_getElem (by omega), e]
    have hp : p < xs.size := by simp at hi; omega
    have ep : xs[p]? = some xs[p] := Array.getElem?_eq_getElem hp
    have h1 := c3 p _ (Nat.le_refl _) ep
    have h2 : xs[p] ≠ j := fun z => h (by rw [ep, z])
    rcases Nat.eq_zero_or_pos i with z | z
    · subst z
      rw [Nat.add_zero, ep] at ex
      have := Option.some.inj ex
      omega
    · have := R.at ep ex (by omega)
      omega
  refine List.pairwise_append.mpr ⟨R.sublist (List.take_sublist _ _), List.pairwise_cons.mpr ⟨hgt, R.sublist (List.drop_sublist _ _)⟩, fun a ha b hb => ?_⟩
  rcases List.mem_cons.mp hb with rfl | hb
  · exact hlt a ha
  · exact Nat.lt_trans (hlt a ha) (hgt b hb)
theorem ris_range (n : Nat) : Ris (Array.range n) := by
  unfold Ris
  rw [Array.toList_range]
  exact List.pairwise_lt_range
theorem advance_dummy (t : SetTable) (p : Probe) : (t.advance p).dummy = p.dummy := by
  unfold advance
  split <;> rfl
theorem probe_go {t : SetTable} {f : Nat → Int} {h : Int} : ∀ (fuel : Nat) (p : Probe) (j : Nat) (d : Option Nat), probe.go t f h fuel p = some (.empty j d) → t.slot j = .empty ∧ ∀ x, d = some x → p.dummy = some x ∨ t.slot x = .dummy
  | 0, p, j, d, e => by cases e
  | fuel + 1, p, j, d, e => by
    unfold probe.go at e
    split at e
    · rename_i hs
      cases e
      exact ⟨hs, fun x hx => .inl hx⟩
    · rename_i hs
      obtain ⟨a, b⟩ := probe_go fuel _ j d e
      refine ⟨a, fun x hx => ?_⟩
      rcases b x hx with z | z
      · rw [advance_dummy] at z
        have z : some p.j = some x := z
        rw [← Option.some.inj z]; exact .inr hs
      · exact .inr z
    · split at e
      · cases e
      · obtain ⟨a, b⟩ := probe_go fuel _ j d e
        refine ⟨a, fun x hx => ?_⟩
        rcases b x hx with z | z
        · rw [advance_dummy] at z; exact .inl z
        · exact .inr z
theorem slot_not {t : SetTable} {j : Nat} (h : ∀ i, t.slot j ≠ .live i) : t.place[below t.place j]? ≠ some j := fun z => by
  refine h (below t.place j) ?_
  unfold slot
  dsimp only
  rw [z, if_pos (by simp)]
theorem freeSlot_free {t : SetTable} {h : Int} {j : Nat} {d : Bool} (e : t.freeSlot h = some (j, d)) : t.place[below t.place j]? ≠ some j := by
  unfold freeSlot at e
  split at e
  · rename_i q d' hp
    obtain ⟨h1, h2⟩ := probe_go _ _ _ _ hp
    cases e
    cases d' with
    | none => exact slot_not fun i z => by rw [show (none : Option Nat).getD q = q from rfl, h1] at z; cases z
    | some x =>
      rcases h2 x rfl with z | z
      · cases z
      · exact slot_not fun i y => by rw [show (some x).getD q = x from rfl, z] at y; cases y
  · cases e
end SetTable
theorem layNew_ris (t : SetTable) (es : Array (Int × Value)) (hx : Int) (x : Value) (R : SetTable.Ris t.place) : SetTable.Ris (layNew t es hx x).2.1.place := by
  unfold layNew
  cases h : t.freeSlot hx with
  | none => exact SetTable.ris_range _
  | some q =>
    obtain ⟨j, d⟩ := q
    have hf := SetTable.freeSlot_free h
    dsimp only [SetTable.put]
    unfold SetTable.orStandIn
    repeat' split
    all_goals first | exact SetTable.ris_range _ | exact R.put hf
theorem relayAll_ris (t : SetTable) (es : Array (Int × Value)) (n : Nat) : SetTable.Ris (relayAll t es n).2.1.place := by
  unfold relayAll
  cases h : t.relaid (es.map (·.1)) n with
  | none => exact SetTable.ris_range _
  | some q =>
    obtain ⟨t', order⟩ := q
    dsimp only
    split
    · unfold SetTable.relaid SetTable.laid at h
      simp only [Option.bind_eq_bind, Option.bind_eq_some_iff] at h
      obtain ⟨o, _, h⟩ := h
      cases h
      unfold SetTable.Ris
      dsimp only
      rw [List.map_filterMap]
      refine List.Pairwise.filterMap _ ?_ List.pairwise_lt_range
      intro a b hab c hc d hd
      simp only [Option.map_map, Function.comp_def] at hc hd
      obtain ⟨u, _, rfl⟩ := Option.map_eq_some_iff.mp hc
      obtain ⟨v, _, rfl⟩ := Option.map_eq_some_iff.mp hd
      exact hab
    · exact SetTable.ris_range _
end PySem
set_option Elab.async false
set_option linter.all false
set_option maxRecDepth 100000
set_option maxHeartbeats 4000000
namespace PySem
open PySem.Spec PyProof.Rows
namespace F
theorem sub_tup_set : isSubtype (.type "tuple") (.type "set") = pure false := by rw [isSubtype_type]; kernel_rfl
theorem sub_tup_fro : isSubtype (.type "tuple") (.type "frozenset") = pure false := by rw [isSubtype_type]; kernel_rfl
theorem sub_lst_set : isSubtype (.type "list") (.type "set") = pure false := by rw [isSubtype_type]; kernel_rfl
theorem sub_lst_fro : isSubtype (.type "list") (.type "frozenset") = pure false := by rw [isSubtype_type]; kernel_rfl
end F
def byTxt (w : World) : Bool := w.params.followText "set-order"
def LedT (w : World) (t : SetTable) : Prop := t.led = !byTxt w ∧ SetTable.Ris t.place
section
variable {K : Type} [DecidableEq K] {prog : Program} {w : World} {knd : KeyKind prog w K}
def SetL (knd : KeyKind prog w K) (h : Heap) (a : Addr) (S : K → Bool) (n : Nat) : Prop :=
  ∃ o es ep t, h.get? a = some o ∧ o.ExactSet ∧ o.data = .set es ep t ∧ ElemsOf knd es.toList ∧ (∀ k, S k = true ↔ ∃ e ∈ es.toList, knd.is k e.2 = true) ∧ es.size < scanBound ∧ t.fits es.size = true ∧ es.size = n ∧ LedT w t
theorem SetL.setOf {h : Heap} {a : Addr} {S : K → Bool} {n : Nat} (x : SetL knd h a S n) : h.SetOf knd a S n := by
  obtain ⟨o, es, ep, t, h1, h2, h3, h4, h5, h6, h7, h8, _⟩ := x
  exact ⟨o, es, ep, t, h1, h2, h3, h4, h5, h6, h7, h8⟩
theorem layNew_led (t : SetTable) (es : Array (Int × Value)) (hx : Int) (x : Value) : (layNew t es hx x).2.1.led = t.led := by
  unfold layNew
  cases t.freeSlot hx with
  | none => rfl
  | some q =>
    obtain ⟨j, d⟩ := q
    dsimp only [SetTable.put]
    unfold SetTable.orStandIn
    repeat' split
    all_goals rfl
theorem relayAll_led (t : SetTable) (es : Array (Int × Value)) (n : Nat) : (relayAll t es n).2.1.led = t.led := by
  unfold relayAll
  cases h : t.relaid (es.map (·.1)) n with
  | none => rfl
  | some q =>
    obtain ⟨t', order⟩ := q
    dsimp only
    split
    · unfold SetTable.relaid SetTable.laid at h
      simp only [Option.bind_eq_bind, Option.bind_eq_some_iff] at h
      obtain ⟨o, _, h⟩ := h
      cases h
      rfl
    · rfl
variable {A : Around} {E : Value → Shared → Prop} {s : Shared}
theorem gaveWay_wp (b : Bool) {s₁ : Shared} {Q' : Unit → Shared → Prop} (hq : Q' () s₁) : wpAny (model prog w) A (match b with | true => rule "set.scan.the-table-gave-way" | false => pure ()) Q' E s₁ := by
  cases b
  · exact wpAny_pure hq
  · exact wpAny_rule hq
theorem setL_store {h : Heap} {a : Addr} {o : Obj} {es es' : Array (Int × Value)} {ep : Nat} {t t' : SetTable} {S' : K → Bool} (ho : h.get? a = some o) (hex : o.ExactSet) (hd : o.data = .set es ep t) (hel : ElemsOf knd es'.toList)
    (hm : ∀ k, S' k = true ↔ ∃ e ∈ es'.toList, knd.is k e.2 = true) (hb : es'.size < scanBound) (hf : t'.fits es'.size = true) (hl : LedT w t') :
    (h.update a (Obj.putSet es' t')).get? a = some { o with data := .set es' (ep + 1) t' } ∧ SetL knd (h.update a (Obj.putSet es' t')) a S' es'.size := by
  have q := (SetOf_store (knd := knd) ho hex hd hel hm hb hf).1
  exact ⟨q, _, es', ep + 1, t', q, hex, rfl, hel, hm, hb, hf, rfl, hl⟩
theorem addTail_led {g : Bool → Sem Unit} (hg : ∀ (b : Bool) (s₁ : Shared) (Q' : Unit → Shared → Prop), Q' () s₁ → wpAny (model prog w) A (g b) Q' E s₁) {a : Addr} {o : Obj} {es es1 : Array (Int × Value)} {ep : Nat} {t t2 : SetTable} {S' : K → Bool} {dm : Bool} {R : Option Bool → Shared → Prop}
    (ho : s.heap.get? a = some o) (hex : o.ExactSet) (hd : o.data = .set es ep t) (hel : ElemsOf knd es1.toList) (hm : ∀ k', S' k' = true ↔ ∃ e ∈ es1.toList, knd.is k' e.2 = true) (hb : es1.size < scanBound) (hf : t2.fits es1.size = true) (hl : LedT w t2)
    (q : ∀ h', Heap.SameBut a s.heap h' → SetL knd h' a S' es1.size → R (some true) { s with heap := h' }) :
    wpAny (model prog w) A (storeSet a es1 t2 >>= fun _ => if (!dm && t2.tooFull) = true then (do
        g (relayAll t2 es1 (SetTable.grown es1.size)).2.2
        storeSet a (relayAll t2 es1 (SetTable.grown es1.size)).1 (relayAll t2 es1 (SetTable.grown es1.size)).2.1
        pure (some true)) else pure (some true)) R E s := by
  obtain ⟨o1, x1⟩ := setL_store (knd := knd) ho hex hd hel hm hb hf hl
  have b1 := Heap.SameBut.update s.heap a (Obj.putSet es1 t2)
  refine wpAny_bind (wpAny_storeSet_of ho hd ?_ (fits_of_scanBound hb))
  by_cases c : (!dm && t2.tooFull) = true
  · rw [if_pos c]
    have p1 := relayAll_perm t2 es1 (SetTable.grown es1.size)
    have p2 := relayAll_fits t2 es1 (SetTable.grown es1.size)
    have p3 := relayAll_led t2 es1 (SetTable.grown es1.size)
    have p4 := relayAll_ris t2 es1 (SetTable.grown es1.size)
    generalize relayAll t2 es1 (SetTable.grown es1.size) = r at p1 p2 p3 p4 ⊢
    obtain ⟨es2, t3, gv⟩ := r
    dsimp only at p1 p2 p3 p4 ⊢
    have z : es2.size = es1.size := by have := p1.length_eq; simpa using this
    refine wpAny_bind (hg _ _ _ (wpAny_bind (wpAny_storeSet_of o1 rfl ?_ (fits_of_scanBound (by rw [z]; exact hb)))))
    obtain ⟨_, x2⟩ := setL_store (knd := knd) (S' := S') (t' := t3) o1 hex rfl (hel.perm p1) (fun k' => by rw [hm k']; exact ⟨fun ⟨e, y1, y2⟩ => ⟨e, p1.mem_iff.mpr y1, y2⟩, fun ⟨e, y1, y2⟩ => ⟨e, p1.mem_iff.mp y1, y2⟩⟩) (by rw [z]; exact hb) p2 ⟨p3.trans hl.1, p4⟩
    rw [z] at x2
    exact wpAny_pure (q _ (b1.trans (Heap.SameBut.update _ a _)) x2)
  · rw [if_neg c]
    exact wpAny_pure (q _ b1 x1)
theorem add_led {a : Addr} {S : K → Bool} {n : Nat} {k : K} {x : Value} {Q : Bool → Shared → Prop} (hk : knd.is k x = true) (hx : x.scannable = true) (hS : SetL knd s.heap a S n) (hn : n + 1 < scanBound)
    (q : ∀ h', Heap.SameBut a s.heap h' → SetL knd h' a (fun k' => S k' || decide (k' = k)) (if S k then n else n + 1) → Q (!S k) { s with heap := h' }) : wpAny (model prog w) A (setAddHashed a x (knd.hash k)) Q E s := by
  obtain ⟨o, es, ep, t, ho, hex, hd, hel, hm, hb, hf, rfl, hl⟩ := hS
  unfold setAddHashed setAddHashedIn
  refine wpAny_holding (wpAny_bind (wpAny_setState_of ho hd hf ?_))
  dsimp only
  rw [byScan_of hx hb hel, if_pos rfl]
  unfold setAddByScan
  refine wpAny_bind (wpAny_bind (wpAny_rule (wpAny_bind (wpAny_setScan_of hk ho hd hf hel ?_))))
  cases hr : List.findIdx? (fun e => knd.is k e.2) es.toList with
  | some j =>
    obtain ⟨hj, pj, _⟩ := List.findIdx?_eq_some_iff_getElem.mp hr
    have sk : S k = true := (hm k).mpr ⟨_, List.getElem_mem hj, pj⟩
    have y := q s.heap (Heap.SameBut.refl a s.heap) ⟨o, es, ep, t, ho, hex, hd, hel, fun k' => by
      rw [← hm k', Bool.or_eq_true, decide_eq_true_eq]
      exact ⟨fun z => z.elim id (fun e => by rw [e]; exact sk), Or.inl⟩, hb, hf, by rw [if_pos sk], hl⟩
    rw [sk] at y
    exact wpAny_pure (wpAny_pure y)
  | none =>
    have sk : S k = false := Bool.eq_false_iff.mpr fun z => by
      obtain ⟨e, h1, h2⟩ := (hm k).mp z
      have := List.findIdx?_eq_none_iff.mp hr e h1
      rw [h2] at this; cases this
    have p1 := layNew_perm t es (knd.hash k) x
    have p2 := layNew_fits t es (knd.hash k) x
    have p3 := layNew_led t es (knd.hash k) x
    have p4 := layNew_ris t es (knd.hash k) x hl.2
    dsimp only
    generalize layNew t es (knd.hash k) x = r at p1 p2 p3 p4 ⊢
    obtain ⟨es1, t1, dm, gv⟩ := r
    dsimp only at p1 p2 p3 p4 ⊢
    rw [Array.toList_push] at p1
    have z : es1.size = es.size + 1 := by have := p1.length_eq; simpa using this
    have m1 : ∀ k', (S k' || decide (k' = k)) = true ↔ ∃ e ∈ es1.toList, knd.is k' e.2 = true := mem_push_iff hk hm p1
    have l1 : LedT w t1 := ⟨p3.trans hl.1, p4⟩
    refine wpAny_bind (gaveWay_wp _ ?_)
    have fin : ∀ h', Heap.SameBut a s.heap h' → SetL knd h' a (fun k' => S k' || decide (k' = k)) es1.size → Q true { s with heap := h' } := fun h' b x1 => by
      have y := q h' b
      rw [sk, if_neg Bool.false_ne_true, ← z] at y
      exact y x1
    split
    · rw [hashByValue_scannable 8 hx]
      refine wpAny_bind (wpAny_pure (addTail_led (fun b _ _ hq => gaveWay_wp b hq) ho hex hd ((hel.push hk hx).perm p1) m1 (by rw [z]; exact hn) ?_ ?_ fun h' b x1 => wpAny_pure (fin h' b x1)))
      · split
        · exact p2
        · exact SetTable.fits_plain_off p2
      · split
        · exact l1
        · exact l1
    · exact wpAny_bind (wpAny_pure (addTail_led (fun b _ _ hq => gaveWay_wp b hq) ho hex hd ((hel.push hk hx).perm p1) m1 (by rw [z]; exact hn) p2 l1 fun h' b x1 => wpAny_pure (fin h' b x1)))
theorem setL_congr {h : Heap} {a : Addr} {S S' : K → Bool} {n n' : Nat} (x : SetL knd h a S n) (e : ∀ k, S k = S' k) (en : n = n') : SetL knd h a S' n' := by
  obtain rfl : S = S' := funext e
  rw [← en]; exact x
theorem setL_keep {h h' : Heap} {a : Addr} {S : K → Bool} {n : Nat} (x : SetL knd h a S n) (e : ∀ o, h.get? a = some o → h'.get? a = some o) : SetL knd h' a S n := by
  obtain ⟨o, es, ep, t, ho, r⟩ := x
  exact ⟨o, es, ep, t, e o ho, r⟩
end
section
variable {K : Type} [DecidableEq K] {prog : Program} {w : World} {knd : KeyKind prog w K} {A : Around} {E : Value → Shared → Prop} {s : Shared}
def metL : List K → List K
  | [] => []
  | k :: r => if k ∈ r then metL r else k :: metL r
def metC (ks : List K) : Nat := (metL ks).length
theorem metL_mem (k : K) : ∀ ks : List K, k ∈ metL ks ↔ k ∈ ks
  | [] => Iff.rfl
  | x :: r => by
    unfold metL
    split
    · rename_i h
      rw [metL_mem k r, List.mem_cons]
      exact ⟨.inr, fun z => z.elim (fun e => e ▸ h) id⟩
    · rw [List.mem_cons, List.mem_cons, metL_mem k r]
theorem metL_nd : ∀ ks : List K, (metL ks).Nodup
  | [] => List.nodup_nil
  | x :: r => by
    unfold metL
    split
    · exact metL_nd r
    · rename_i h
      exact List.nodup_cons.mpr ⟨fun z => h ((metL_mem x r).mp z), metL_nd r⟩
theorem metC_le : ∀ ks : List K, metC ks ≤ ks.length
  | [] => Nat.le_refl _
  | x :: r => by
    have := metC_le r
    unfold metC at this ⊢
    unfold metL
    split <;> simp <;> omega
theorem metC_nd : ∀ ks : List K, metC ks = ks.length ↔ ks.Nodup
  | [] => ⟨fun _ => List.nodup_nil, fun _ => rfl⟩
  | x :: r => by
    have h1 := metC_le r
    have h2 := metC_nd r
    unfold metC at h1 h2 ⊢
    unfold metL
    rw [List.nodup_cons]
    split
    · rename_i h
      exact ⟨fun z => by simp at z; omega, fun z => absurd h z.1⟩
    · rename_i h
      rw [← h2]
      simp [h]
theorem metC_cons (k : K) (r : List K) : metC (k :: r) = if k ∈ r then metC r else metC r + 1 := by
  unfold metC
  rw [metL.eq_def]
  dsimp only
  split <;> simp
theorem metC_perm {a b : List K} (h : ∀ k, k ∈ a ↔ k ∈ b) : metC a = metC b := by
  have : (metL a).Perm (metL b) := (List.perm_ext_iff_of_nodup (metL_nd a) (metL_nd b)).mpr fun k => by rw [metL_mem, metL_mem, h]
  exact this.length_eq
theorem metC_app (a : List K) : ∀ b : List K, metC a ≤ metC (b ++ a)
  | [] => Nat.le_refl _
  | x :: r => by
    have h := metC_app a r
    rw [List.cons_append, metC_cons]
    split <;> omega
theorem metC_sub {a b : List K} (h : ∀ k ∈ a, k ∈ b) : metC a ≤ metC b := by
  rw [← metC_perm (a := b ++ a) (b := b) fun k => by rw [List.mem_append]; exact ⟨fun z => z.elim id (h k), .inl⟩]
  exact metC_app a b
variable {R : Result → Shared → Prop} {I : Addr} {fp wr : List Addr} {G : Array GenState → Array GenState → Prop} {n : Nat} {P : Nat → Value → Prop} {St : Nat → Shared → Prop}
theorem loop_led (W : WalksS prog w A.in1 I fp wr G n P St) {S : Addr} (hS : S ∉ fp) {ks : List K} (hl : ks.length = n) (hv : ∀ (i : Nat) k v, ks[i]? = some k → P i v → knd.is k v = true ∧ v.scannable = true) (hb : metC ks + 1 < scanBound)
    (hh : ∀ (k : K) (v : Value) (s : Shared) (Q : Int → Shared → Prop), knd.is k v = true → (∀ tk, s.toks ≤ tk → Q (knd.hash k) { s with toks := tk }) → wpAny (model prog w) A.in1 (pyHash v) Q (fun e s' => R (.error e) s') s) :
    ∀ (m i : Nat) (s : Shared), n - i = m → i ≤ n → St i s → SetL knd s.heap S (fun k => decide (k ∈ ks.take i)) (metC (ks.take i)) →
      (∀ s', Moved (S :: wr) G s s' → SetL knd s'.heap S (fun k => decide (k ∈ ks)) (metC ks) → R (.ok (.ret .none)) s') →
      codeAny (model prog w) A (.builtin "set.update.loop" ⟨[.ref S, .ref I], []⟩) R s := by
  have nw : S ∉ wr := fun z => hS (W.sub _ z)
  have up : ∀ b ∈ wr, b ∈ S :: wr := fun b z => List.mem_cons_of_mem _ z
  intro m
  induction m with
  | zero =>
    intro i s e1 e2 st x q
    obtain rfl : i = n := by omega
    rw [List.take_of_length_le (by omega)] at x
    refine codeAny_builtin F.entry_set_update_loop ?_
    rw [Around.under_plainId F.plain_set_update_loop _]
    refine wpAny_bind (m := pyNext (.ref I)) (W.done s _ _ st fun s' mv => ?_)
    exact wpAny_pure (q s' (mv.mono up) (setL_keep x fun o => mv.heap S o nw))
  | succ m ih =>
    intro i s e1 e2 st x q
    have lt : i < n := by omega
    have hk : ks[i]? = some (ks[i]'(by omega)) := List.getElem?_eq_getElem (by omega)
    refine codeAny_builtin F.entry_set_update_loop ?_
    rw [Around.under_plainId F.plain_set_update_loop _]
    refine wpAny_bind (m := pyNext (.ref I)) (W.item i s _ _ lt st fun v s' p st' mv => ?_)
    obtain ⟨k1, k2⟩ := hv i _ v hk p
    generalize ks[i]'(by omega) = k at hk k1
    have x' := setL_keep x fun o => mv.heap S o nw
    refine wpAny_bind (m := holding [v] (setAdd S v)) (wpAny_holding ?_)
    unfold setAdd
    refine wpAny_holding (wpAny_bind (hh k v s' _ k1 fun tk htk => ?_))
    have t1 : ks.take (i + 1) = ks.take i ++ [k] := by rw [List.take_succ, hk]; rfl
    refine add_led (s := { s' with toks := tk }) k1 k2 x' ?_ fun h' sb x2 => ?_
    · have := metC_sub (a := ks.take i) (b := ks) fun k hk => List.mem_of_mem_take hk
      omega
    refine wpAny_pure ⟨plainId_quiet F.plain_set_update_loop _, ih (i + 1) _ (by omega) (by omega) (W.frame _ s' _ _ st' htk fun b hb o e => ?_) (setL_congr x2 (fun k' => ?_) ?_) fun s2 mv2 x3 => ?_⟩
    · rw [sb.2 b (fun z : b = S => hS (by rw [← z]; exact hb))]; exact e
    · rw [t1]; simp
    · rw [t1, metC_perm (a := ks.take i ++ [k]) (b := k :: ks.take i) (fun z => by simp; exact Or.comm), metC_cons]
      simp
    · refine q s2 (Moved.trans W.gtrans ((mv.mono up).then_heap htk fun b o hb e => ?_) mv2) x3
      rw [sb.2 b (fun z : b = S => hb (by rw [z]; exact List.mem_cons_self))]; exact e
end
end PySem
set_option Elab.async false
set_option linter.all false
set_option maxRecDepth 100000
set_option maxHeartbeats 4000000
namespace PySem
open PySem.Spec PyProof.Rows
def set0 (w : World) : Obj := { cls := .type "set", dict := none, data := .set #[] 0 (.fresh 0 0 (!byTxt w)) }
section
variable {K : Type} [DecidableEq K] {prog : Program} {w : World} {knd : KeyKind prog w K} {A : Around} {E : Value → Shared → Prop} {s : Shared}
theorem setL_new {h : Heap} {a : Addr} (e : h.get? a = some (set0 w)) : SetL knd h a (fun k => decide (k ∈ ([] : List K))) (metC ([] : List K)) :=
  ⟨_, #[], 0, _, e, ⟨rfl, rfl, rfl⟩, rfl, fun e he => by simp at he, fun k => by simp, by show 0 < 4096; decide, rfl, rfl, rfl, List.Pairwise.nil⟩
theorem code_new_set (args : List Value) (hc : checkBuiltinCall "set.__new__" ⟨.type "set" :: args, []⟩ = pure ()) {Q₁ : Value → Shared → Prop} (q : Q₁ (.ref s.heap.objs.size) { s with heap := s.heap.push (set0 w) }) :
    codeAny (model prog w) A (.call (.builtin "set.__new__") ⟨.type "set" :: args, []⟩) (wants Q₁ E) s := by
  refine codeAny_of_tree (wpAny_bind (m := checkBuiltinCall "set.__new__" ⟨.type "set" :: args, []⟩) (wpAny_of_eq hc (wpAny_pure ⟨plainId_quiet F.plain_set_new _, codeAny_builtin F.entry_set_new ?_⟩)))
  rw [Around.under_plainId F.plain_set_new _]
  unfold Builtin.«set.__new__» Builtin.Frozenset.newClass
  have hsub := sub_set_self
  obtain ⟨hp, g, d, tk, os⟩ := s
  dsimp only
  wp_walk
  refine wpAny_askSetting (wpAny_pure ?_)
  simp only [newObj]
  exact wpAny_bind (wpAny_alloc (wpAny_pure (wpAny_pure q)))
theorem new_chk1 (a : Value) : checkBuiltinCall "set.__new__" ⟨.type "set" :: [a], []⟩ = pure () := F.newCall_set_1 a
theorem call_set_src {T : String} {l : Addr} {ol : Obj} {n : Nat} {ks : List K} {P : Nat → Value → Prop} {Q : Value → Shared → Prop} (hol : s.heap.get? l = some ol) (hcl : ol.cls = .type T) (h1 : isSubtype (.type T) (.type "set") = pure false) (h2 : isSubtype (.type T) (.type "frozenset") = pure false) (hne : (Value.type T == Value.type "dict") = false)
    (hn : metC ks + 1 < scanBound) (hl : ks.length = n) (hv : ∀ (i : Nat) k v, ks[i]? = some k → P i v → knd.is k v = true ∧ v.scannable = true)
    (hh : ∀ (A : Around) (k : K) (v : Value) (s : Shared) (E : Value → Shared → Prop) (Q : Int → Shared → Prop), knd.is k v = true → (∀ tk, s.toks ≤ tk → Q (knd.hash k) { s with toks := tk }) → wpAny (model prog w) A (pyHash v) Q E s)
    (hit : ∀ (A : Around) (s1 : Shared) (E : Value → Shared → Prop) (Q : Value → Shared → Prop), A.handled = none → s1 = { s with heap := s.heap.push (set0 w) } → (∀ (I : Addr) (fp wr : List Addr) (s2 : Shared) (St : Nat → Shared → Prop), WalksS prog w A.in1 I fp wr (fun a b => b = a) n P St → St 0 s2 →
        s.heap.objs.size ∉ fp → (∀ b ∈ wr, s.heap.objs.size < b) → s2.gens = s.gens → s2.drawn = s.drawn → s2.os = s.os → s.toks ≤ s2.toks → (∀ b o, s1.heap.get? b = some o → s2.heap.get? b = some o) → Q (.ref I) s2) → wpAny (model prog w) A (pyIter (.ref l)) Q E s1)
    (hA : A.handled = none)
    (q : ∀ (h' : Heap) (tk : Nat), SetL knd h' s.heap.objs.size (fun k => decide (k ∈ ks)) (metC ks) → (∀ b o, b < s.heap.objs.size → s.heap.get? b = some o → h'.get? b = some o) → Q (.ref s.heap.objs.size) { s with heap := h', toks := tk }) :
    wpAny (model prog w) A (call (.type "set") [.ref l]) Q E s := by
  obtain ⟨c, tl, hmro⟩ := F.called_set.mro
  have hmade := F.called_set.made
  have hsub := F.called_set.sub
  refine wpAny_call (codeAny_of_tree (wpAny_pure ⟨Code.quiet_builtin _ (by decide +kernel), codeAny_builtin F.entry_type_call ?_⟩))
  rw [Around.under_plain (weight_type_call_type "set" [.ref l] []) rfl]
  have hnt := F.called_set.notType
  have hcc := F.called_set.canCreate
  have hct := F.typeCall_set_1 (.ref l)
  repeat (any_goals (first | assumption | wp_step))
  have hS : (s.heap.push (set0 w)).get? s.heap.objs.size = some (set0 w) := Heap.get?_push_size _ rfl
  refine codeAny_mono (code_new_set [.ref l] (new_chk1 _) (E := E) (Q₁ := fun obj s₁ => obj = .ref s.heap.objs.size ∧ s₁ = { s with heap := s.heap.push (set0 w) }) ⟨rfl, rfl⟩) fun r s₁ hr => ?_
  rcases r with e | fl
  · exact hr
  cases fl
  case ret obj =>
    obtain ⟨rfl, rfl⟩ := hr
    have hT : Shared.TypeIs { s with heap := s.heap.push (set0 w) } (.ref s.heap.objs.size) "set" := ⟨_, hS, rfl⟩
    have hli := F.called_set.init.lookup
    have hbi := F.called_set.init.bind (.ref s.heap.objs.size)
    repeat (any_goals (first | assumption | wp_step))
    refine codeAny_mono (codeAny_call_builtin (R := wants (fun r s₂ => r = .none ∧ ∃ h' tk, s₂ = { s with heap := h', toks := tk } ∧ SetL knd h' s.heap.objs.size (fun k => decide (k ∈ ks)) (metC ks) ∧ (∀ b o, b < s.heap.objs.size → s.heap.get? b = some o → h'.get? b = some o)) E) F.called_set.init.plain F.entry_set_init (check_set_init_1 hT ?_)) fun r₂ s₂ hr₂ => ?_
    · obtain ⟨ocl, odi, oda, osl⟩ := ol
      dsimp only at hcl
      subst hcl
      have hol' : (s.heap.push (set0 w)).get? l = some { cls := .type T, dict := odi, data := oda, slots := osl } := Heap.get?_push_of_some _ hol
      unfold Builtin.«set.__init__» noKeywords Builtin.Frozenset.updateFrom
      generalize hPI : pyIter = PI
      unfold set0 at *
      wp_walk
      subst hPI
      refine hit A.in1.in1 _ _ _ (by simp [hA]) rfl fun I fp wr s2 St W st n1 n2 g1 g2 g3 g4 g5 => ?_
      refine wpAny_bind (wpAny_runValue (loop_led W n1 hl hv hn (fun k v s₀ Q₀ hk hq => hh _ k v s₀ _ Q₀ hk hq) n 0 s2 (by omega) (Nat.zero_le _) st (setL_new (g5 _ _ hS)) fun s3 mv x => ?_))
      obtain ⟨h3, e1, e2, e3, e4⟩ := s3
      obtain rfl : e1 = s.gens := (show e1 = s2.gens from mv.gens).trans g1
      obtain rfl : e2 = s.drawn := (show e2 = s2.drawn from mv.drawn).trans g2
      obtain rfl : e4 = s.os := (show e4 = s2.os from mv.os).trans g3
      refine wpAny_pure (wpAny_pure ⟨rfl, h3, e3, rfl, x, fun b o hb e => ?_⟩)
      refine mv.heap b o (fun z => ?_) (g5 b o (Heap.get?_push_of_some _ e))
      rcases List.mem_cons.mp z with z | z
      · exact Nat.ne_of_lt hb z
      · exact Nat.lt_asymm hb (n2 b z)
    · rcases r₂ with e | fl
      · exact hr₂
      cases fl
      case ret r =>
        obtain ⟨rfl, h', tk, rfl, x, k⟩ := hr₂
        repeat (any_goals (first | assumption | wp_step))
        exact q _ _ x k
      all_goals exact hr₂.elim
  all_goals exact hr.elim
end
end PySem
set_option Elab.async false
set_option linter.all false
set_option maxRecDepth 100000
set_option maxHeartbeats 4000000
namespace L2
open PySem PySem.Spec PyProof.Rows
section
variable {X : Cx}
theorem int_hash {prog : Program} {w : World} (A : Around) (k : Int) (v : Value) (s : Shared) (E : Value → Shared → Prop) (Q : Int → Shared → Prop) (h : (intKind prog w).is k v = true) (q : ∀ tk, s.toks ≤ tk → Q ((intKind prog w).hash k) { s with toks := tk }) : wpAny (model prog w) A (pyHash v) Q E s :=
  (intKind prog w).pyHash h (q _ (Nat.le_succ _))
theorem int_met {prog : Program} {w : World} {ns : List Int} {its : List Value} (r : Vals (ns.map V.int) its) (i : Nat) (k : Int) (v : Value) (h1 : ns[i]? = some k) (h2 : its[i]? = some v) : (intKind prog w).is k v = true ∧ v.scannable = true := by
  obtain ⟨u, e, t, rfl⟩ := r.get (x := .int k) (by rw [List.getElem?_map, h1]; rfl)
  rw [h2] at e
  cases e
  exact ⟨intKind_is _ _ _ _, rfl⟩
end
end L2
set_option Elab.async false
set_option linter.all false
set_option maxRecDepth 100000
set_option maxHeartbeats 4000000
namespace L2
open PySem PySem.Spec PyProof.Rows
theorem kds_of_code {K : PySem.W.Frag} {cd : Value} {q : Str} (e : PySem.W.codeIn K cd q = true) : PySem.W.kdsCode K cd = true := by
  cases cd with
  | ref c =>
    unfold PySem.W.codeIn at e
    unfold PySem.W.kdsCode
    dsimp only at e ⊢
    revert e
    cases K.lookup c with
    | none => exact fun e => e
    | some o =>
      obtain ⟨a, b, d, f⟩ := o
      cases d <;> first | exact fun _ => rfl | exact fun e => e
  | _ => exact absurd e Bool.false_ne_true
section
variable {P : Program} {w : World} {K : PySem.W.Frag} {mg : Str → Option Value} {base : Heap}
theorem Fun.okC {x qual : Str} {st : Stmt} {f : Addr} {fd : FuncData} {N ps : List Str} {k : Nat} {sp : Sp} (F : Fun K x qual st f fd) (S : FnScope N ps (defScope st)) (len : ∀ vs H Q E, sp vs H Q E → vs.length = ps.length)
    (hbody : ∀ (cdv : Value) (A : Around) (outer : List Env) (s : Shared) (H : Hp) (vs : List V) (Q : VK) (E : XK), PySem.W.codeIn K cdv qual = true → Room k (A.deeper (envOfC qual (defScope st) s.heap.objs.size f cdv)) → sp vs H Q E →
      ∃ t, PSs (cxOf CX0 P w K mg base N qual (defScope st) f cdv A outer s H E).nox (defBody st) t ∧ t { nx := fun _ H' => Q .non H', rt := Q } (start N vs) H) : FnOk P w K mg base CX0 (k + 1) f fd ps sp := by
  obtain ⟨oc, od, kV, doc, pm, an, cdv, ct, osl, rfl, lk, hcd⟩ := F.ex
  exact fn_of lk hcd S len fun A outer s H vs Q E hr hsp => let ⟨t, h, q⟩ := hbody cdv A outer s H vs Q E hcd hr hsp; ⟨t, h.nox, q⟩
end
section
variable {X : Cx}
def tSet1 (te : TE) : TE := fun σ H Q => ∀ D, H D = none → te σ (upd H D (.set (fun _ => false) 0)) fun x H1 => ∃ i, x = .int i ∧ H1 D = some (.set (fun _ => false) 0) ∧ Q (.ref D) (upd H1 D (.set (fun k => decide (k = i)) 1))
theorem unled_wp {a : Addr} {S : Int → Bool} {n : Nat} {s : Shared} {A : Around} {E : Value → Shared → Prop} {Q : Unit → Shared → Prop} (hS : s.heap.SetOf (intKind X.prog X.w) a S n) (q : ∀ h', Heap.SameBut a s.heap h' → h'.SetOf (intKind X.prog X.w) a S n → Q () { s with heap := h' }) :
    wpAny (model X.prog X.w) A (setUnled a) Q E s := by
  obtain ⟨o, es, ep, t, ho, hex, hd, hel, hm, hb, hf, rfl⟩ := hS
  unfold setUnled
  refine wpAny_bind (wpAny_setState_of ho hd hf (wpAny_storeSet_of ho hd ?_ (fits_of_scanBound hb)))
  exact q _ (Heap.SameBut.update _ a _) (SetOf_store (knd := intKind X.prog X.w) (t' := { t with led := false }) ho hex hd hel hm hb (by exact hf)).2
theorem pe_set1 {e : Expr} {k : Nat} {pos : Pos} {te : TE} (hc : PySem.W.kdsCode X.K X.env.code = true) (hroad : (displayRoad k [e] == .constants) = false) (hp : PySem.W.kdsPlain e = true) (h : PE X e te) : PE X (.Set [e] k pos) (tSet1 te) := by
  intro pins s σ H Q I q
  rw [arm_eval_Set]
  refine wpAny_bind (wpAny_standAt ?_)
  refine wpAny_bind (PySem.W.kds_main I.kIn hc fun b => ?_)
  rw [PySem.W.kds_star [e] (by rw [List.all_cons, hp]; rfl), List.map_map]
  refine PySem.W.kds_core (ts := (evalEach [e] X.env).map fun t => do let v ← t; standAt pos; pure v) hroad ?_ ?_ ?_ fun led => ?_
  · refine List.findIdx?_eq_none_iff.mpr fun x hx => ?_
    obtain ⟨t, _, rfl⟩ := List.mem_map.mp hx
    rfl
  · rw [List.length_map, PySem.W.kds_len]; exact (by decide : 1 ≤ 30)
  · rw [List.map_map]; rfl
  · have new : (s.heap.push { cls := .type "set", dict := none, data := .set #[] 0 (.fresh 0 0 led) }).SetOf (intKind X.prog X.w) s.heap.objs.size (fun _ => false) 0 := (Obj.IntSetOf.kind (intSetOf_fresh led) X.prog X.w).setOf (Heap.get?_push_size _ rfl) (by decide)
    have I1 := I.laid (t' := s.toks) (o := .set (fun _ => false) 0) (fun b ob e => Heap.get?_push_of_some _ e) (Nat.le_refl _) new
    have q1 := q _ (I.hok.fresh (Nat.le_refl _))
    refine PySem.W.kds_all pos [e] _ _ (wpAny_mono (h pins _ σ _ _ I1 q1) (fun u s2 ⟨x, H1, I2, rx, i, ex, hD, q2⟩ => ?_) fun _ _ z => z)
    subst ex
    obtain ⟨t, rfl⟩ := rx
    have hS : s2.heap.SetOf (intKind X.prog X.w) s.heap.objs.size (fun _ => false) 0 := I2.hok _ _ hD
    refine PySem.W.kds_fill_cons ?_
    unfold setAdd
    refine wpAny_holding (wpAny_bind ((intKind X.prog X.w).pyHash (k := i) (intKind_is _ _ _ _) ?_))
    refine wpAny_setAddHashed_of (knd := intKind X.prog X.w) (s := { s2 with toks := s2.toks + 1 }) (intKind_is _ _ _ _) rfl hS (by decide) fun h' sb hS' => ?_
    have eS : (fun k' : Int => false || decide (k' = i)) = fun k' => decide (k' = i) := by funext k'; simp
    rw [eS] at hS'
    have wr : ∀ (h'' : Heap) (tk : Nat), (∀ b, b ≠ s.heap.objs.size → h''.get? b = s2.heap.get? b) → h''.SetOf (intKind X.prog X.w) s.heap.objs.size (fun k' => decide (k' = i)) 1 → EP X pins σ Q (.ref s.heap.objs.size) { s2 with heap := h'', toks := tk } := fun h'' tk sb2 hS2 =>
      ⟨.ref s.heap.objs.size, _, I2.write (x := s.heap.objs.size) (e := s.heap.objs.size) (o := .set (fun k => decide (k = i)) 1) (by rw [hD]; exact trivial) (.inl rfl) (fun b ob hb e => (sb2 b hb).trans e) (by obtain ⟨o, _, _, _, e, _⟩ := hS2; exact ⟨o, e⟩) hS2, rfl, q2⟩
    cases hu : (displayRoad k [e] == .unsure) with
    | false => exact PySem.W.kds_fill_nil rfl (wr h' _ (fun b hb => sb.2 b hb) hS')
    | true =>
      refine PySem.W.kds_fill_unled rfl (unled_wp (s := { s2 with heap := h', toks := s2.toks + 1 }) hS' fun h2 sb2 hS2 => ?_)
      exact wr h2 _ (fun b hb => (sb2.2 b hb).trans (sb.2 b hb)) hS2
end
end L2
set_option Elab.async false
set_option linter.all false
set_option maxRecDepth 100000
set_option maxHeartbeats 1000000
namespace L2
open PySem PySem.Spec PyProof.Rows
section
variable {X : Cx}
end
end L2
set_option linter.all false
set_option maxRecDepth 100000
namespace Hs
theorem Lin.at {f : Int → Option Int} : ∀ {l : List Int}, Lin f l → ∀ (i : Nat) (x y : Int), l[i]? = some x → l[i + 1]? = some y → f x = some y
  | [], _, i, x, y, h, _ => by simp at h
  | [a], _, i, x, y, _, h => by simp at h
  | a :: b :: r, L, 0, x, y, h1, h2 => by cases h1; cases h2; exact L.1
  | a :: b :: r, L, i + 1, x, y, h1, h2 => Lin.at L.2 i x y h1 h2
theorem lin_of {f : Int → Option Int} : ∀ {l : List Int}, (∀ (i : Nat) (x y : Int), l[i]? = some x → l[i + 1]? = some y → f x = some y) → Lin f l
  | [], _ => trivial
  | [_], _ => trivial
  | a :: b :: r, h => ⟨h 0 a b rfl rfl, lin_of fun i x y h1 h2 => h (i + 1) x y h1 h2⟩
def rot (l : List Int) (k : Nat) : List Int := l.drop k ++ l.take k
theorem rot_len (l : List Int) {k : Nat} (h : k ≤ l.length) : (rot l k).length = l.length := by unfold rot; simp; omega
theorem rot_mem {l : List Int} {k : Nat} {z : Int} : z ∈ rot l k ↔ z ∈ l := by
  unfold rot
  have : l.take k ++ l.drop k = l := List.take_append_drop k l
  constructor
  · intro h
    rw [← this]
    rcases List.mem_append.mp h with q | q
    · exact List.mem_append_right _ q
    · exact List.mem_append_left _ q
  · intro h
    rw [← this] at h
    rcases List.mem_append.mp h with q | q
    · exact List.mem_append_right _ q
    · exact List.mem_append_left _ q
theorem rot_at {l : List Int} {k i : Nat} (h : k < l.length) : (rot l k)[i]? = if i < l.length - k then l[k + i]? else if i < l.length then l[i - (l.length - k)]? else none := by
  unfold rot
  by_cases c : i < l.length - k
  · rw [if_pos c, List.getElem?_append_left (by simp; omega), List.getElem?_drop]
  · rw [if_neg c, List.getElem?_append_right (by simp; omega)]
    simp only [List.length_drop]
    by_cases d : i < l.length
    · rw [if_pos d, List.getElem?_take, if_pos (by omega)]
    · rw [if_neg d, List.getElem?_take, if_neg (by omega)]
theorem last_at {l : List Int} : l.getLast? = l[l.length - 1]? := List.getLast?_eq_getElem?
theorem rot_trail {f : Int → Option Int} {h : Int} {l : List Int} (t : Trail f h h l) (nd : l.Nodup) (cl : ∀ z, l.getLast? = some z → f z = some h) {k : Nat} {x : Int} (hx : l[k]? = some x) :
    Trail f x x (rot l k) ∧ ∀ z, (rot l k).getLast? = some z → f z = some x := by
  have L := t.lin
  obtain ⟨r0, er0⟩ := t.head
  have h0 : l[0]? = some h := by rw [er0]; rfl
  obtain ⟨hk, ek⟩ := List.getElem?_eq_some_iff.mp hx
  have lastC : ∀ z, (rot l k).getLast? = some z → f z = some x := fun z hz => by
    rw [last_at, rot_len l (by omega), rot_at hk] at hz
    by_cases k0 : k = 0
    · subst k0
      rw [if_pos (by omega)] at hz
      rw [h0] at hx; cases hx
      exact cl z (by rw [last_at, ← hz]; congr 1; omega)
    · rw [if_neg (by omega), if_pos (by omega)] at hz
      refine L.at (k - 1) z x ?_ (by rw [← hx]; congr 1; omega)
      rw [← hz]; congr 1; omega
  have LR : Lin f (rot l k) := lin_of fun i a b ha hb => by
    rw [rot_at hk] at ha hb
    by_cases c : i + 1 < l.length - k
    · rw [if_pos (by omega)] at ha
      rw [if_pos c] at hb
      exact L.at (k + i) a b ha hb
    · rw [if_neg c] at hb
      by_cases c2 : i < l.length - k
      · rw [if_pos c2] at ha
        have e : i + 1 - (l.length - k) = 0 := by omega
        split at hb
        · rw [e, h0] at hb; cases hb
          exact cl a (by rw [last_at, ← ha]; congr 1; omega)
        · cases hb
      · rw [if_neg c2] at ha
        split at hb
        · rw [if_pos (by omega)] at ha
          refine L.at (i - (l.length - k)) a b ha ?_
          rw [← hb]; congr 1; omega
        · cases hb
  have e : rot l k = x :: (l.drop (k + 1) ++ l.take k) := by
    unfold rot
    rw [List.drop_eq_getElem_cons hk, ek]; rfl
  have nx : ∀ z ∈ l.drop (k + 1) ++ l.take k, z ≠ x := fun z hz q => by
    subst q
    rcases List.mem_append.mp hz with q | q
    · obtain ⟨j, hj⟩ := List.getElem?_of_mem q
      rw [List.getElem?_drop] at hj
      have := nd_at nd hx hj
      omega
    · obtain ⟨j, hj⟩ := List.getElem?_of_mem q
      rw [List.getElem?_take] at hj
      split at hj
      · have := nd_at nd hx hj
        omega
      · cases hj
  refine ⟨?_, lastC⟩
  have lc := lastC
  rw [e] at LR lc ⊢
  exact trail_of_lin LR nx fun z hz => .inr (lc z hz)
section
variable {on : List Int} {ms : List (Option Int)} (S : SkinOk on ms)
include S
theorem SkinOk.patC {h : Int} (g : InR on.length h) : ∀ z, (patL on h).getLast? = some z → onwF on z = some h := fun z hz => by
  obtain ⟨z', e', q⟩ := (S.pat g).1.fin
  rw [hz] at e'; cases e'
  rcases q with q | q
  · cases q
  · exact q
theorem SkinOk.patR {h x : Int} {k : Nat} (g : InR on.length h) (hx : (patL on h)[k]? = some x) : patL on x = rot (patL on h) k := by
  obtain ⟨t, nd, rg, len⟩ := S.pat g
  have hk := (List.getElem?_eq_some_iff.mp hx).1
  exact trl_of (rot_trail t nd (S.patC g) hx).1 _ (by rw [rot_len _ (by omega)]; omega)
theorem SkinOk.self_pat {h : Int} (g : InR on.length h) : h ∈ patL on h := by
  obtain ⟨r, e⟩ := (S.pat g).1.head
  rw [e]; simp
end
structure Parted (A : List Int) (g : Int → List Int) : Prop where
  cls : ∀ h ∈ A, h ∈ g h ∧ (g h).Nodup ∧ ∀ z ∈ g h, z ∈ A ∧ ∀ y, y ∈ g z ↔ y ∈ g h
theorem once_flat {g : Int → List Int} {A : List Int} (P : Parted A g) : ∀ (hs met : List Int), (∀ h ∈ hs, h ∈ A) → (∀ z ∈ A, z ∈ met → ∀ y ∈ g z, y ∈ met) →
    (onceF g met hs).flatten.Nodup ∧ ∀ z, z ∈ (onceF g met hs).flatten ↔ z ∉ met ∧ ∃ h ∈ hs, z ∈ g h
  | [], met, _, _ => ⟨by simp [onceF], fun z => by simp [onceF]⟩
  | h :: r, met, ha, hm => by
    by_cases m : h ∈ met
    · rw [once_skip m]
      obtain ⟨n, q⟩ := once_flat P r met (fun x hx => ha x (List.mem_cons_of_mem _ hx)) hm
      refine ⟨n, fun z => ?_⟩
      rw [q z]
      constructor
      · rintro ⟨a, x, hx, b⟩
        exact ⟨a, x, List.mem_cons_of_mem _ hx, b⟩
      · rintro ⟨a, x, hx, b⟩
        rcases List.mem_cons.mp hx with rfl | hx
        · exact absurd (hm x (ha x (by simp)) m z b) a
        · exact ⟨a, x, hx, b⟩
    · rw [once_take m]
      obtain ⟨hh, nd, cl⟩ := P.cls h (ha h (by simp))
      have hm2 : ∀ z ∈ A, z ∈ met ++ g h → ∀ y ∈ g z, y ∈ met ++ g h := fun z hz hzm y hy => by
        rcases List.mem_append.mp hzm with q | q
        · exact List.mem_append_left _ (hm z hz q y hy)
        · exact List.mem_append_right _ (((cl z q).2 y).mp hy)
      obtain ⟨n, q⟩ := once_flat P r (met ++ g h) (fun x hx => ha x (List.mem_cons_of_mem _ hx)) hm2
      have out : ∀ z ∈ g h, z ∉ met := fun z hz zm => m (hm z (cl z hz).1 zm h (((cl z hz).2 h).mpr hh))
      rw [List.flatten_cons]
      refine ⟨?_, fun z => ?_⟩
      · rw [List.nodup_append]
        refine ⟨nd, n, fun a hag b hb e => ?_⟩
        subst e
        exact ((q a).mp hb).1 (List.mem_append_right _ hag)
      · rw [List.mem_append, q z]
        constructor
        · rintro (a | ⟨a, x, hx, b⟩)
          · exact ⟨out z a, h, by simp, a⟩
          · exact ⟨fun zm => a (List.mem_append_left _ zm), x, List.mem_cons_of_mem _ hx, b⟩
        · rintro ⟨a, x, hx, b⟩
          by_cases zg : z ∈ g h
          · exact .inl zg
          · rcases List.mem_cons.mp hx with rfl | hx
            · exact absurd b zg
            · refine .inr ⟨fun zm => ?_, x, hx, b⟩
              rcases List.mem_append.mp zm with y | y
              · exact a y
              · exact zg y
theorem once_all {g : Int → List Int} {A : List Int} (P : Parted A g) : (onceF g [] A).flatten.Nodup ∧ ∀ z, z ∈ (onceF g [] A).flatten ↔ z ∈ A := by
  obtain ⟨n, q⟩ := once_flat P A [] (fun _ h => h) (fun z _ h => by cases h)
  refine ⟨n, fun z => ?_⟩
  rw [q z]
  constructor
  · rintro ⟨_, h, hh, hz⟩
    exact ((P.cls h hh).2.2 z hz).1
  · intro hz
    exact ⟨by simp, z, hz, (P.cls z hz).1⟩
theorem rngL_lt (n : Nat) : (rngL n).Pairwise (· < ·) := by
  unfold rngL
  rw [List.pairwise_map]
  exact List.pairwise_lt_range.imp fun h => by omega
section
variable {on : List Int} {ms : List (Option Int)} (S : SkinOk on ms)
include S
theorem SkinOk.part_pat : Parted (rngL on.length) (patL on) := ⟨fun h hh => by
  have g := rngL_mem.mp hh
  obtain ⟨t, nd, rg, len⟩ := S.pat g
  refine ⟨S.self_pat g, nd, fun z hz => ⟨rngL_mem.mpr (rg z hz), fun y => ?_⟩⟩
  obtain ⟨k, hk⟩ := List.getElem?_of_mem hz
  rw [S.patR g hk, rot_mem]⟩
end
end Hs
set_option linter.all false
set_option maxRecDepth 100000
set_option maxHeartbeats 1000000
namespace Hs
def NxRow (row : List Int) (a b : Int) : Prop := ∃ j, j < row.length ∧ row[prv row.length j]? = some a ∧ row[j]? = some b
theorem nx_split {row : List Int} {a b : Int} : NxRow row a b ↔ ∃ u v, row = u ++ a :: v ∧ (v ++ u ++ [a]).head? = some b := by
  constructor
  · rintro ⟨j, hj, ha, hb⟩
    obtain ⟨hi, ea⟩ := List.getElem?_eq_some_iff.mp ha
    have er : row = row.take (prv row.length j) ++ a :: row.drop (prv row.length j + 1) := by
      rw [← ea, ← List.drop_eq_getElem_cons hi, List.take_append_drop]
    refine ⟨row.take (prv row.length j), row.drop (prv row.length j + 1), er, ?_⟩
    by_cases z : j = 0
    · subst z
      have e1 : prv row.length 0 + 1 = row.length := by unfold prv; rw [if_pos rfl]; omega
      rw [e1, List.drop_length] at er ⊢
      rw [List.nil_append, ← er, List.head?_eq_getElem?]
      exact hb
    · have e1 : prv row.length j + 1 = j := by unfold prv; rw [if_neg z]; omega
      rw [e1, List.append_assoc, List.head?_append, List.head?_drop, hb]
      rfl
  · rintro ⟨u, v, rfl, h⟩
    cases v with
    | nil =>
      refine ⟨0, by simp, ?_, ?_⟩
      · unfold prv; rw [if_pos rfl]; simp
      · rw [← List.head?_eq_getElem?]; simpa using h
    | cons c v =>
      refine ⟨u.length + 1, by simp, ?_, ?_⟩
      · unfold prv; rw [if_neg (by omega)]; simp
      · have : c = b := by simpa using h
        subst this
        rw [List.getElem?_append_right (by omega)]
        simp
theorem nx_mem {row : List Int} {a b : Int} (h : NxRow row a b) : a ∈ row ∧ b ∈ row := by
  obtain ⟨j, _, ha, hb⟩ := h
  exact ⟨List.mem_of_getElem? ha, List.mem_of_getElem? hb⟩
theorem nx_ex {row : List Int} {a : Int} (h : a ∈ row) : ∃ b, NxRow row a b := by
  obtain ⟨u, v, rfl⟩ := List.append_of_mem h
  cases hh : (v ++ u ++ [a]).head? with
  | none => simp at hh
  | some b => exact ⟨b, nx_split.mpr ⟨u, v, rfl, hh⟩⟩
theorem nx_pre {row : List Int} {b : Int} (h : b ∈ row) : ∃ a, NxRow row a b := by
  obtain ⟨j, hj, e⟩ := List.getElem_of_mem h
  have hp := prv_lt hj
  exact ⟨row[prv row.length j], j, hj, List.getElem?_eq_getElem hp, by rw [List.getElem?_eq_getElem hj, e]⟩
theorem nx_inj {row : List Int} (nd : row.Nodup) {a a' b : Int} (h : NxRow row a b) (h' : NxRow row a' b) : a = a' := by
  obtain ⟨j, hj, ha, hb⟩ := h
  obtain ⟨k, hk, ha', hb'⟩ := h'
  have := nd_at nd hb hb'
  subst this
  rw [ha] at ha'
  exact Option.some.inj ha'
theorem nx_fun {row : List Int} (nd : row.Nodup) {a b b' : Int} (h : NxRow row a b) (h' : NxRow row a b') : b = b' := by
  obtain ⟨j, hj, ha, hb⟩ := h
  obtain ⟨k, hk, ha', hb'⟩ := h'
  have := prv_inj hj hk (nd_at nd ha ha')
  subst this
  rw [hb] at hb'
  exact Option.some.inj hb'
structure RowsOk (rows : List (List Int)) (S : Int → Prop) (nx : Int → Int) : Prop where
  nd : rows.flatten.Nodup
  mem : ∀ x, x ∈ rows.flatten ↔ S x
  nx : ∀ row ∈ rows, ∀ a b, NxRow row a b → nx a = b
theorem flat_nd {rows : List (List Int)} (h : rows.flatten.Nodup) {row : List Int} (hr : row ∈ rows) : row.Nodup := by
  induction rows with
  | nil => cases hr
  | cons r rs ih =>
    rw [List.flatten_cons] at h
    rcases List.mem_cons.mp hr with rfl | hr
    · exact (List.nodup_append.mp h).1
    · exact ih (List.nodup_append.mp h).2.1 hr
theorem flat_one {rows : List (List Int)} (h : rows.flatten.Nodup) {r r' : List Int} (hr : r ∈ rows) (hr' : r' ∈ rows) {x : Int} (hx : x ∈ r) (hx' : x ∈ r') : r = r' := by
  induction rows with
  | nil => cases hr
  | cons q rs ih =>
    rw [List.flatten_cons] at h
    obtain ⟨_, n2, n3⟩ := List.nodup_append.mp h
    rcases List.mem_cons.mp hr with e | k <;> rcases List.mem_cons.mp hr' with e' | k'
    · rw [e, e']
    · subst e; exact absurd rfl (n3 x hx x (List.mem_flatten.mpr ⟨r', k', hx'⟩))
    · subst e'; exact absurd rfl (n3 x hx' x (List.mem_flatten.mpr ⟨r, k, hx⟩))
    · exact ih n2 k k'
section
variable {rows : List (List Int)} {S : Int → Prop} {nx : Int → Int} (R : RowsOk rows S nx)
include R
theorem RowsOk.into {a : Int} (h : S a) : S (nx a) := by
  obtain ⟨row, hr, ha⟩ := List.mem_flatten.mp ((R.mem a).mpr h)
  obtain ⟨b, hb⟩ := nx_ex ha
  rw [R.nx row hr a b hb]
  exact (R.mem b).mp (List.mem_flatten.mpr ⟨row, hr, (nx_mem hb).2⟩)
theorem RowsOk.inj {a a' : Int} (h : S a) (h' : S a') (e : nx a = nx a') : a = a' := by
  obtain ⟨row, hr, ha⟩ := List.mem_flatten.mp ((R.mem a).mpr h)
  obtain ⟨row', hr', ha'⟩ := List.mem_flatten.mp ((R.mem a').mpr h')
  obtain ⟨b, hb⟩ := nx_ex ha
  obtain ⟨b', hb'⟩ := nx_ex ha'
  rw [R.nx row hr a b hb, R.nx row' hr' a' b' hb'] at e
  subst e
  have := flat_one R.nd hr hr' (nx_mem hb).2 (nx_mem hb').2
  subst this
  exact nx_inj (flat_nd R.nd hr) hb hb'
theorem RowsOk.sur {b : Int} (h : S b) : ∃ a, S a ∧ nx a = b := by
  obtain ⟨row, hr, hb⟩ := List.mem_flatten.mp ((R.mem b).mpr h)
  obtain ⟨a, ha⟩ := nx_pre hb
  exact ⟨a, (R.mem a).mp (List.mem_flatten.mpr ⟨row, hr, (nx_mem ha).1⟩), R.nx row hr a b ha⟩
end
def rk (L : List Int) (x : Int) : Int := ((L.idxOf x : Nat) : Int)
def rkO (L : List Int) : Option Int → Option Int
  | none => none
  | some x => if x ∈ L then some (rk L x) else none
def clOn (L : List Int) (nx : Int → Int) : List Int := L.map fun a => rk L (nx a)
def clMs (L : List Int) (mt : Int → Option Int) : List (Option Int) := L.map fun a => rkO L (mt a)
theorem rk_get {L : List Int} {a : Int} (h : a ∈ L) : L[(rk L a).toNat]? = some a := by
  unfold rk; rw [Int.toNat_natCast]; exact ahd_get h
theorem rk_rng {L : List Int} {a : Int} (h : a ∈ L) : InR L.length (rk L a) := by
  have := ahd_rng h
  exact this
theorem rk_inj {L : List Int} {a b : Int} (ha : a ∈ L) (hb : b ∈ L) (e : rk L a = rk L b) : a = b := by
  have h1 := rk_get ha
  rw [e, rk_get hb] at h1
  exact (Option.some.inj h1).symm
theorem rk_at {L : List Int} (nd : L.Nodup) {i : Nat} {a : Int} (h : L[i]? = some a) : rk L a = (i : Int) := by
  have h1 := rk_get (List.mem_of_getElem? h)
  have := nd_at nd h1 h
  have h2 := (rk_rng (List.mem_of_getElem? h)).1
  omega
theorem close_skin {L : List Int} {nx : Int → Int} {mt : Int → Option Int} (nd : L.Nodup) (h1 : 1 ≤ L.length) (h2 : L.length ≤ 400) (into : ∀ a ∈ L, nx a ∈ L) (inj : ∀ a ∈ L, ∀ b ∈ L, nx a = nx b → a = b) (sur : ∀ b ∈ L, ∃ a ∈ L, nx a = b)
    (mm : ∀ a ∈ L, ∀ b ∈ L, mt a = some b → b ≠ a ∧ mt b = some a) : SkinOk (clOn L nx) (clMs L mt) := by
  have lo : (clOn L nx).length = L.length := by unfold clOn; simp
  have lm : (clMs L mt).length = L.length := by unfold clMs; simp
  have at' : ∀ i (h : i < L.length), (clOn L nx)[i]'(by rw [lo]; exact h) = rk L (nx L[i]) := fun i h => by unfold clOn; simp
  refine ⟨by rw [lo]; exact h1, by rw [lo]; exact h2, by rw [lo, lm], fun x hx => ?_, ?_, fun y h0 hy => ?_, fun h m e => ?_⟩
  · obtain ⟨a, ha, rfl⟩ := List.mem_map.mp hx
    rw [lo]; exact rk_rng (into a ha)
  · rw [List.nodup_iff_pairwise_ne, List.pairwise_iff_getElem]
    intro i j hi hj hij e
    rw [lo] at hi hj
    rw [at' i hi, at' j hj] at e
    have e1 := rk_inj (into _ (List.getElem_mem hi)) (into _ (List.getElem_mem hj)) e
    have e2 := inj _ (List.getElem_mem hi) _ (List.getElem_mem hj) e1
    have := (List.getElem_inj nd).mp e2
    omega
  · rw [lo] at hy
    have hi : y.toNat < L.length := by omega
    obtain ⟨a, ha, e⟩ := sur _ (List.getElem_mem hi)
    refine List.mem_map.mpr ⟨a, ha, ?_⟩
    show rk L (nx a) = y
    rw [e, rk_at nd (List.getElem?_eq_getElem hi)]; omega
  · rw [lo]
    unfold clMs at e ⊢
    rw [List.getElem?_map] at e
    obtain ⟨a, ha, e2⟩ := Option.map_eq_some_iff.mp e
    have hL := List.mem_of_getElem? ha
    have ra := rk_at nd ha
    cases hm : mt a with
    | none => rw [hm] at e2; cases e2
    | some b =>
      rw [hm] at e2
      unfold rkO at e2
      dsimp only at e2
      by_cases hb : b ∈ L
      · rw [if_pos hb] at e2
        have e3 : rk L b = m := Option.some.inj e2
        subst e3
        obtain ⟨q1, q2⟩ := mm a hL b hb hm
        have rb := rk_rng hb
        refine ⟨rb.1, rb.2, fun z => q1 (rk_inj hb hL (by rw [z, ra])), ?_⟩
        rw [List.getElem?_map, rk_get hb]
        show some (rkO L (mt b)) = _
        rw [q2]
        unfold rkO
        dsimp only
        rw [if_pos hL, ra]
      · rw [if_neg hb] at e2; cases e2
theorem RowsOk.skin {rows : List (List Int)} {S : Int → Prop} {nx : Int → Int} {mt : Int → Option Int} (R : RowsOk rows S nx) {L : List Int} (nd : L.Nodup) (hL : ∀ x, x ∈ L ↔ S x) (h1 : 1 ≤ L.length) (h2 : L.length ≤ 400)
    (mm : ∀ a, S a → ∀ b, S b → mt a = some b → b ≠ a ∧ mt b = some a) : SkinOk (clOn L nx) (clMs L mt) :=
  close_skin nd h1 h2 (fun a ha => (hL _).mpr (R.into ((hL a).mp ha))) (fun a ha b hb e => R.inj ((hL a).mp ha) ((hL b).mp hb) e)
    (fun b hb => by obtain ⟨a, ha, e⟩ := R.sur ((hL b).mp hb); exact ⟨a, (hL a).mpr ha, e⟩) fun a ha b hb e => mm a ((hL a).mp ha) b ((hL b).mp hb) e
theorem rngL_nd (n : Nat) : (rngL n).Nodup := (rngL_lt n).imp (fun h => by omega)
theorem trail_first {on : List Int} {h x : Int} {l : List Int} (t : Trail (onwF on) h x l) : (l.drop 1 ++ [h]).head? = some (lk on x) := by
  cases t with
  | last q =>
    rcases q with q | q
    · cases q
    · have : lk on x = h := Option.some.inj q
      simp [this]
  | step q _ t =>
    obtain ⟨r, rfl⟩ := t.head
    have := Option.some.inj q
    simp [← this]
theorem SkinOk.patS {on : List Int} {ms : List (Option Int)} (S : SkinOk on ms) {h a : Int} {u v : List Int} (g : InR on.length h) (e : patL on h = u ++ a :: v) : patL on a = a :: (v ++ u) := by
  have hx : (patL on h)[u.length]? = some a := by rw [e, List.getElem?_append_right (Nat.le_refl _)]; simp
  rw [S.patR g hx, e]
  unfold rot
  simp
theorem SkinOk.pat_nx {on : List Int} {ms : List (Option Int)} (S : SkinOk on ms) {h a b : Int} (g : InR on.length h) (n : NxRow (patL on h) a b) : lk on a = b := by
  obtain ⟨u, v, e, hb⟩ := nx_split.mp n
  have ga : InR on.length a := (S.pat g).2.2.1 a (by rw [e]; simp)
  have ea := S.patS g e
  have t := (S.pat ga).1
  rw [ea] at t
  have := trail_first t
  rw [List.drop_one, List.tail_cons, hb] at this
  exact (Option.some.inj this).symm
def patsL (on : List Int) : List (List Int) := onceF (patL on) [] (rngL on.length)
theorem pats_of {on : List Int} {row : List Int} (h : row ∈ patsL on) : ∃ x, InR on.length x ∧ row = patL on x := by
  obtain ⟨x, hx, e⟩ := onceF_mem _ _ row h
  exact ⟨x, rngL_mem.mp hx, e⟩
theorem SkinOk.rows {on : List Int} {ms : List (Option Int)} (S : SkinOk on ms) : RowsOk (patsL on) (InR on.length) (lk on) := by
  obtain ⟨h1, h2⟩ := once_all S.part_pat
  refine ⟨h1, fun x => by rw [← rngL_mem]; exact h2 x, fun row hr a b n => ?_⟩
  obtain ⟨x, g, rfl⟩ := pats_of hr
  exact S.pat_nx g n
end Hs
set_option linter.all false
set_option maxRecDepth 100000
set_option maxHeartbeats 1000000
namespace Hs
theorem RowsOk.more {rows : List (List Int)} {S : Int → Prop} {nx nx' : Int → Int} (R : RowsOk rows S nx) {row : List Int} (nd : row.Nodup) (hn : ∀ x ∈ row, ¬ S x) (h1 : ∀ x, S x → nx' x = nx x) (h2 : ∀ x b, NxRow row x b → nx' x = b) : RowsOk (rows ++ [row]) (fun x => S x ∨ x ∈ row) nx' := by
  have hf : (rows ++ [row]).flatten = rows.flatten ++ row := by simp
  refine ⟨?_, fun x => ?_, fun r hr x b n => ?_⟩
  · rw [hf]
    exact List.nodup_append.mpr ⟨R.nd, nd, fun a ha b hb e => hn b hb ((R.mem b).mp (e ▸ ha))⟩
  · rw [hf, List.mem_append, R.mem]
  · rcases List.mem_append.mp hr with q | q
    · rw [h1 x ((R.mem x).mp (List.mem_flatten.mpr ⟨r, q, (nx_mem n).1⟩))]
      exact R.nx r q x b n
    · rw [List.mem_singleton.mp q] at n
      exact h2 x b n
inductive Fol (on : List Int) (T : List Int) : Nat → Int → Int → Prop
  | here {x : Int} : x ∉ T → Fol on T 0 x x
  | step {k : Nat} {x y : Int} : x ∈ T → Fol on T k (lk on x) y → Fol on T (k + 1) x y
theorem Fol.det {on T : List Int} {k : Nat} {x y : Int} (h : Fol on T k x y) : ∀ {k' : Nat} {y' : Int}, Fol on T k' x y' → y = y' := by
  induction h with
  | here n =>
    intro k' y' h'
    cases h' with
    | here _ => rfl
    | step m _ => exact absurd m n
  | step m _ ih =>
    intro k' y' h'
    cases h' with
    | here n => exact absurd m n
    | step _ q => exact ih q
theorem Fol.out {on T : List Int} {k : Nat} {x y : Int} (h : Fol on T k x y) : y ∉ T := by
  induction h with
  | here n => exact n
  | step _ _ ih => exact ih
noncomputable def nxF (on T : List Int) (a : Int) : Int := Classical.epsilon fun y => ∃ k, Fol on T k (lk on a) y
theorem nxF_is {on T : List Int} {k : Nat} {a y : Int} (h : Fol on T k (lk on a) y) : nxF on T a = y := by
  obtain ⟨k', q⟩ : ∃ k', Fol on T k' (lk on a) (nxF on T a) := Classical.epsilon_spec (p := fun y => ∃ k, Fol on T k (lk on a) y) ⟨y, k, h⟩
  exact q.det h
theorem fol_trail {on T : List Int} {h0 x : Int} {l : List Int} (t : Trail (onwF on) h0 x l) (hT : h0 ∉ T) : ∃ k y, Fol on T k (lk on x) y ∧ ((l.drop 1 ++ [h0]).filter fun z => decide (z ∉ T)).head? = some y := by
  induction t with
  | @last x q =>
    rcases q with q | q
    · cases q
    · have : lk on x = h0 := Option.some.inj q
      exact ⟨0, h0, by rw [this]; exact .here hT, by simp [hT]⟩
  | @step x y l q _ t ih =>
    have e : lk on x = y := Option.some.inj q
    obtain ⟨r, rfl⟩ := t.head
    by_cases z : y ∈ T
    · obtain ⟨k, w, f, hh⟩ := ih
      refine ⟨k + 1, w, by rw [e]; exact .step z f, ?_⟩
      rw [← hh]
      simp [z]
    · exact ⟨0, y, by rw [e]; exact .here z, by simp [z]⟩
def leftOut (T : List Int) (rows : List (List Int)) : List (List Int) := (rows.map fun row => row.filter fun x => decide (x ∉ T)).filter fun row => decide (row ≠ [])
theorem flat_filter (p : List Int → Bool) (hp : ∀ l, p l = false → l = []) : ∀ rows : List (List Int), (rows.filter p).flatten = rows.flatten
  | [] => rfl
  | r :: rs => by
    rw [List.filter_cons]
    split
    · rw [List.flatten_cons, List.flatten_cons, flat_filter p hp rs]
    · rename_i h
      rw [flat_filter p hp rs, List.flatten_cons, hp r (by simpa using h)]
      rfl
theorem flat_map_filter (p : Int → Bool) : ∀ rows : List (List Int), (rows.map (List.filter p)).flatten = rows.flatten.filter p
  | [] => rfl
  | r :: rs => by rw [List.map_cons, List.flatten_cons, List.flatten_cons, List.filter_append, flat_map_filter p rs]
theorem leftOut_flat (T : List Int) (rows : List (List Int)) : (leftOut T rows).flatten = rows.flatten.filter fun x => decide (x ∉ T) := by
  unfold leftOut
  rw [flat_filter _ (fun l h => by simpa using h), flat_map_filter]
theorem SkinOk.left {on : List Int} {ms : List (Option Int)} (S : SkinOk on ms) (T : List Int) : RowsOk (leftOut T (patsL on)) (fun x => InR on.length x ∧ x ∉ T) (nxF on T) := by
  have R := S.rows
  have nd : (leftOut T (patsL on)).flatten.Nodup := by rw [leftOut_flat]; exact R.nd.sublist List.filter_sublist
  refine ⟨nd, fun x => ?_, fun row hr a b n => ?_⟩
  · rw [leftOut_flat, List.mem_filter, R.mem]; simp
  · have hr0 := hr
    obtain ⟨r0, hr1, e⟩ := List.mem_map.mp (List.mem_filter.mp hr).1
    obtain ⟨h, g, rfl⟩ := pats_of hr1
    have ha := (nx_mem n).1
    rw [← e] at ha
    obtain ⟨ha, hT⟩ := List.mem_filter.mp ha
    have hT : a ∉ T := by simpa using hT
    obtain ⟨u, v, es⟩ := List.append_of_mem ha
    have ga := (S.pat g).2.2.1 a ha
    have t := (S.pat ga).1
    rw [S.patS g es] at t
    obtain ⟨k, y, f, hh⟩ := fol_trail t hT
    rw [nxF_is f]
    refine nx_fun (flat_nd nd hr0) (nx_split.mpr ⟨u.filter fun x => decide (x ∉ T), v.filter fun x => decide (x ∉ T), ?_, ?_⟩) n
    · rw [← e, es, List.filter_append, List.filter_cons_of_pos (by simpa using hT)]
    · rw [List.drop_one, List.tail_cons, List.filter_append, List.filter_append, show [a].filter (fun z => decide (z ∉ T)) = [a] by simp [hT]] at hh
      exact hh
end Hs
set_option linter.all false
set_option maxRecDepth 100000
set_option maxHeartbeats 1000000
namespace Hs
theorem RowsOk.congr {rows : List (List Int)} {S S' : Int → Prop} {nx : Int → Int} (R : RowsOk rows S nx) (h : ∀ x, S x ↔ S' x) : RowsOk rows S' nx := ⟨R.nd, fun x => (R.mem x).trans (h x), R.nx⟩
theorem RowsOk.at {rows : List (List Int)} {S : Int → Prop} {nx : Int → Int} (R : RowsOk rows S nx) {a : Int} (ha : S a) : ∃ (i : Nat) (u v : List Int), rows[i]? = some (u ++ a :: v) := by
  obtain ⟨row, hr, hx⟩ := List.mem_flatten.mp ((R.mem a).mpr ha)
  obtain ⟨i, hi, e⟩ := List.getElem_of_mem hr
  obtain ⟨u, v, e2⟩ := List.append_of_mem hx
  exact ⟨i, u, v, by rw [List.getElem?_eq_getElem hi, e, e2]⟩
theorem RowsOk.all {rows : List (List Int)} {n : Nat} {nx : Int → Int} {mt : Int → Option Int} (R : RowsOk rows (InR n) nx) (h1 : 1 ≤ n) (h2 : n ≤ 400) (mm : ∀ a, InR n a → ∀ b, InR n b → mt a = some b → b ≠ a ∧ mt b = some a) : SkinOk (clOn (rngL n) nx) (clMs (rngL n) mt) :=
  R.skin (rngL_nd n) (fun x => rngL_mem) (by rw [rngL_len]; exact h1) (by rw [rngL_len]; exact h2) mm
theorem lkM_out {ms : List (Option Int)} {x : Int} (h : (ms.length : Int) ≤ x) : lkM ms x = none := by
  unfold lkM
  rw [List.getElem?_eq_none (by omega)]; rfl
theorem SkinOk.mtS {on : List Int} {ms : List (Option Int)} (S : SkinOk on ms) {a b : Int} (g : 0 ≤ a) (e : lkM ms a = some b) : InR on.length a ∧ InR on.length b ∧ lkM ms b = some a ∧ b ≠ a := by
  have ga : InR on.length a := ⟨g, by
    rcases Int.lt_or_le a on.length with h | h
    · exact h
    · rw [lkM_out (by rw [S.len]; exact h)] at e; cases e⟩
  obtain ⟨h1, h2, h3⟩ := S.mate ga e
  exact ⟨ga, h1, h2, h3⟩
theorem lk_setI {l : List Int} {j v x : Int} (h : InR l.length j) (hx : 0 ≤ x) : lk (l.set j.toNat v) x = if x = j then v else lk l x := by
  rw [lk_set (by omega)]
  have : x.toNat = j.toNat ↔ x = j := by omega
  simp only [this]
theorem SkinOk.mm {on : List Int} {ms : List (Option Int)} (S : SkinOk on ms) {a b : Int} (g : 0 ≤ a) (e : lkM ms a = some b) : b ≠ a ∧ lkM ms b = some a := ⟨(S.mtS g e).2.2.2, (S.mtS g e).2.2.1⟩
def mergeable (on : List Int) (ms : List (Option Int)) (h : Int) : Prop := lk on h ≠ h ∧ lkM ms h ≠ some (lk on h) ∧ (match lkM ms (lk on h) with
  | none => lkM ms h = none
  | some f => lkM ms h = some (lk on f))
instance (on : List Int) (ms : List (Option Int)) (h : Int) : Decidable (mergeable on ms h) := by
  unfold mergeable
  cases lkM ms (lk on h) <;> exact inferInstance
end Hs
set_option linter.all false
set_option maxRecDepth 100000
set_option maxHeartbeats 1000000
set_option linter.all false
set_option maxRecDepth 100000
set_option maxHeartbeats 1000000
namespace Hs
section
variable {on : List Int} {ms : List (Option Int)} (S : SkinOk on ms)
include S
end
end Hs
set_option linter.all false
set_option maxRecDepth 100000
set_option maxHeartbeats 1000000
namespace Hs
open PySem (metC metC_le metC_nd)
theorem nd_sub : ∀ {a b : List Int}, a.Nodup → (∀ x ∈ a, x ∈ b) → a.length ≤ b.length
  | [], _, _, _ => Nat.zero_le _
  | x :: a, b, nd, h => by
    obtain ⟨n1, n2⟩ := List.nodup_cons.mp nd
    have hx := h x List.mem_cons_self
    have := nd_sub (b := b.erase x) n2 fun y hy => (List.mem_erase_of_ne (show y ≠ x from fun e => n1 (by rw [← e]; exact hy))).mpr (h y (List.mem_cons_of_mem _ hy))
    rw [List.length_erase_of_mem hx] at this
    have := List.length_pos_of_mem hx
    simp
    omega
def rimmed (on : List Int) (ms : List (Option Int)) (h : Int) : Prop := lkM ms (fstK on ms h) = none
instance (on : List Int) (ms : List (Option Int)) (h : Int) : Decidable (rimmed on ms h) := by unfold rimmed; exact inferInstance
inductive Rch (on : List Int) (ms : List (Option Int)) (h : Int) : Int → Prop
  | self : Rch on ms h h
  | next {x : Int} : Rch on ms h x → Rch on ms h (lk on x)
  | mate {x m : Int} : Rch on ms h x → lkM ms x = some m → Rch on ms h m
theorem Rch.rng {on : List Int} {ms : List (Option Int)} (S : SkinOk on ms) {h x : Int} (g : InR on.length h) (r : Rch on ms h x) : InR on.length x := by
  induction r with
  | self => exact g
  | next _ ih => exact S.lkR ih
  | mate _ e ih => exact (S.mate ih e).1
def drawRims (on : List Int) (ms : List (Option Int)) (h : Int) : Prop := lkM ms h ≠ none ∧ rimmed on ms h ∧ rimmed on ms (lk on h)
instance (on : List Int) (ms : List (Option Int)) (h : Int) : Decidable (drawRims on ms h) := by unfold drawRims; exact inferInstance
def drawLast (on : List Int) (ms : List (Option Int)) (h : Int) : Prop := lkM ms h = some (lk on h) ∧ lk on (lk on h) = h
instance (on : List Int) (ms : List (Option Int)) (h : Int) : Decidable (drawLast on ms h) := by unfold drawLast; exact inferInstance
section
variable {on : List Int} {ms : List (Option Int)} (S : SkinOk on ms)
include S
end
end Hs
set_option linter.all false
set_option maxRecDepth 100000
set_option maxHeartbeats 1000000
namespace Hs
theorem Rch.trans {on : List Int} {ms : List (Option Int)} {a b c : Int} (h : Rch on ms a b) (k : Rch on ms b c) : Rch on ms a c := by
  induction k with
  | self => exact h
  | next _ ih => exact .next ih
  | mate _ e ih => exact .mate ih e
theorem trail_rch {on : List Int} {ms : List (Option Int)} {h0 x : Int} {l : List Int} (t : Trail (onwF on) h0 x l) : ∀ z ∈ l, Rch on ms x z := by
  induction t with
  | last _ => intro z hz; rw [List.mem_singleton.mp hz]; exact .self
  | @step x y l hy _ _ ih =>
    intro z hz
    rcases List.mem_cons.mp hz with rfl | hz
    · exact .self
    · have e : lk on x = y := Option.some.inj hy
      have : Rch on ms x y := by rw [← e]; exact .next .self
      exact this.trans (ih z hz)
section
variable {on : List Int} {ms : List (Option Int)} (S : SkinOk on ms)
include S
theorem SkinOk.onBack {h : Int} (g : InR on.length h) : Rch on ms (lk on h) h := by
  have R := S.rows
  obtain ⟨row, hr, hx⟩ := List.mem_flatten.mp ((R.mem h).mpr g)
  obtain ⟨b, hb⟩ := nx_ex hx
  have eb := R.nx row hr h b hb
  obtain ⟨y, gy, rfl⟩ := pats_of hr
  obtain ⟨u, v, e⟩ := List.append_of_mem (nx_mem hb).2
  have e2 := S.patS gy e
  have gb : InR on.length b := (S.pat gy).2.2.1 b (nx_mem hb).2
  rw [eb]
  refine trail_rch (S.pat gb).1 h ?_
  rw [e2]
  rw [e] at hx
  simp at hx ⊢
  rcases hx with z | z | z
  · exact .inr (.inr z)
  · exact .inl z
  · exact .inr (.inl z)
theorem Rch.symm {a b : Int} (g : InR on.length a) (r : Rch on ms a b) : Rch on ms b a := by
  induction r with
  | self => exact .self
  | next r ih => exact (S.onBack (r.rng S g)).trans ih
  | mate r e ih => exact (Rch.mate .self (S.mate (r.rng S g) e).2.1).trans ih
end
open Classical in
noncomputable def partL (on : List Int) (ms : List (Option Int)) (h : Int) : List Int := (rngL on.length).filter fun x => decide (Rch on ms h x)
noncomputable def repP (on : List Int) (ms : List (Option Int)) (h : Int) : Int := (partL on ms h).headD h
noncomputable def partsL (on : List Int) (ms : List (Option Int)) : List (List Int) := onceF (partL on ms) [] (rngL on.length)
theorem pw_ext : ∀ {a b : List Int}, a.Pairwise (· < ·) → b.Pairwise (· < ·) → (∀ x, x ∈ a ↔ x ∈ b) → a = b
  | [], [], _, _, _ => rfl
  | [], y :: b, _, _, h => by have := (h y).mpr List.mem_cons_self; cases this
  | x :: a, [], _, _, h => by have := (h x).mp List.mem_cons_self; cases this
  | x :: a, y :: b, p, q, h => by
    obtain ⟨p1, p2⟩ := List.pairwise_cons.mp p
    obtain ⟨q1, q2⟩ := List.pairwise_cons.mp q
    have e : x = y := by
      have h1 := (h x).mp List.mem_cons_self
      have h2 := (h y).mpr List.mem_cons_self
      rcases List.mem_cons.mp h1 with z | z
      · exact z
      · rcases List.mem_cons.mp h2 with w | w
        · exact w.symm
        · have := q1 x z; have := p1 y w; omega
    subst e
    rw [pw_ext p2 q2 fun z => ?_]
    have hz := h z
    constructor
    · intro m
      rcases List.mem_cons.mp (hz.mp (List.mem_cons_of_mem _ m)) with w | w
      · have := p1 z m; omega
      · exact w
    · intro m
      rcases List.mem_cons.mp (hz.mpr (List.mem_cons_of_mem _ m)) with w | w
      · have := q1 z m; omega
      · exact w
section
variable {on : List Int} {ms : List (Option Int)} (S : SkinOk on ms)
theorem partL_mem {h x : Int} : x ∈ partL on ms h ↔ InR on.length x ∧ Rch on ms h x := by
  unfold partL
  rw [List.mem_filter, rngL_mem]; simp
theorem partL_lt (h : Int) : (partL on ms h).Pairwise (· < ·) := (rngL_lt on.length).sublist List.filter_sublist
theorem partL_len (h : Int) : (partL on ms h).length ≤ on.length := by
  have := List.length_filter_le (fun x => @decide (Rch on ms h x) (Classical.propDecidable _)) (rngL on.length)
  rw [rngL_len] at this; exact this
include S
theorem SkinOk.rep {h : Int} (g : InR on.length h) : InR on.length (repP on ms h) ∧ Rch on ms h (repP on ms h) ∧ ∀ x, InR on.length x → Rch on ms h x → repP on ms h ≤ x := by
  have hh : h ∈ partL on ms h := partL_mem.mpr ⟨g, .self⟩
  have p := partL_lt (on := on) (ms := ms) h
  have m : ∀ x, x ∈ partL on ms h ↔ InR on.length x ∧ Rch on ms h x := fun x => partL_mem
  unfold repP
  generalize partL on ms h = l at hh p m
  cases l with
  | nil => cases hh
  | cons a r =>
    obtain ⟨p1, _⟩ := List.pairwise_cons.mp p
    have ha := (m a).mp List.mem_cons_self
    refine ⟨ha.1, ha.2, fun x gx rx => ?_⟩
    rcases List.mem_cons.mp ((m x).mpr ⟨gx, rx⟩) with z | z
    · show a ≤ x; omega
    · have := p1 x z
      show a ≤ x; omega
theorem SkinOk.rep_le {h : Int} (g : InR on.length h) : repP on ms h ≤ h := (S.rep g).2.2 h g .self
theorem SkinOk.rep_one {a b : Int} (g : InR on.length a) (gb : InR on.length b) (r : Rch on ms a b) : repP on ms a = repP on ms b := by
  have h1 := S.rep g
  have h2 := S.rep gb
  have e1 := h1.2.2 _ h2.1 (r.trans h2.2.1)
  have e2 := h2.2.2 _ h1.1 ((r.symm S g).trans h1.2.1)
  omega
theorem SkinOk.rep_iff {a b : Int} (g : InR on.length a) (gb : InR on.length b) : repP on ms a = repP on ms b ↔ Rch on ms a b := by
  refine ⟨fun e => ?_, S.rep_one g gb⟩
  have h1 := (S.rep g).2.1
  have h2 := (S.rep gb).2.1
  rw [e] at h1
  exact h1.trans (h2.symm S gb)
theorem SkinOk.rep_rep {h : Int} (g : InR on.length h) : repP on ms (repP on ms h) = repP on ms h := (S.rep_one g (S.rep g).1 (S.rep g).2.1).symm
end
theorem once_rep {g : Int → List Int} {rep : Int → Int} {R : Int → Prop} (idem : ∀ x, R x → R (rep x) ∧ rep (rep x) = rep x ∧ rep x ≤ x) (hg : ∀ h, R h → rep h = h → ∀ x, x ∈ g h ↔ R x ∧ rep x = h) :
    ∀ (hs met : List Int), hs.Pairwise (· < ·) → (∀ h ∈ hs, R h) → (∀ h ∈ hs, h ∈ met ↔ rep h ∉ hs) → onceF g met hs = (hs.filter fun h => decide (rep h = h)).map g
  | [], _, _, _, _ => rfl
  | h :: t, met, pw, hr, hm => by
    obtain ⟨p1, p2⟩ := List.pairwise_cons.mp pw
    have rh := hr h List.mem_cons_self
    have rt : ∀ y ∈ t, R y := fun y hy => hr y (List.mem_cons_of_mem _ hy)
    unfold onceF
    by_cases c : h ∈ met
    · rw [if_pos c]
      have nr : rep h ∉ h :: t := (hm h List.mem_cons_self).mp c
      have ne : rep h ≠ h := fun z => nr (by rw [z]; exact List.mem_cons_self)
      rw [List.filter_cons_of_neg (by simpa using ne)]
      refine once_rep idem hg t met p2 rt fun y hy => ?_
      rw [hm y (List.mem_cons_of_mem _ hy)]
      refine ⟨fun z w => z (List.mem_cons_of_mem _ w), fun z w => ?_⟩
      rcases List.mem_cons.mp w with w | w
      · have := (idem y (rt y hy)).2.1
        rw [w] at this
        exact ne this
      · exact z w
    · rw [if_neg c]
      have ir : rep h ∈ h :: t := Classical.byContradiction fun z => c ((hm h List.mem_cons_self).mpr z)
      have er : rep h = h := by
        rcases List.mem_cons.mp ir with z | z
        · exact z
        · have := p1 _ z; have := (idem h rh).2.2; omega
      rw [List.filter_cons_of_pos (by simpa using er), List.map_cons]
      congr 1
      refine once_rep idem hg t _ p2 rt fun y hy => ?_
      rw [List.mem_append, hm y (List.mem_cons_of_mem _ hy), hg h rh er]
      constructor
      · rintro (z | z) w
        · exact z (List.mem_cons_of_mem _ w)
        · rw [z.2] at w
          have := p1 h w; omega
      · intro z
        by_cases w : rep y = h
        · exact .inr ⟨rt y hy, w⟩
        · refine .inl fun q => ?_
          rcases List.mem_cons.mp q with q | q
          · exact w q
          · exact z q
theorem SkinOk.parts_map {on : List Int} {ms : List (Option Int)} (S : SkinOk on ms) : partsL on ms = ((rngL on.length).filter fun h => decide (repP on ms h = h)).map (partL on ms) := by
  unfold partsL
  refine once_rep (R := InR on.length) (rep := repP on ms) (fun x g => ⟨(S.rep g).1, S.rep_rep g, S.rep_le g⟩) (fun h g e x => ?_) _ _ (rngL_lt _) (fun h hh => rngL_mem.mp hh) fun h hh => ?_
  · rw [partL_mem]
    refine ⟨fun z => ⟨z.1, by rw [← S.rep_one g z.1 z.2, e]⟩, fun z => ⟨z.1, (S.rep_iff g z.1).mp (by rw [e, z.2])⟩⟩
  · have g := rngL_mem.mp hh
    exact ⟨fun z => (by cases z), fun z => absurd (rngL_mem.mpr (S.rep g).1) z⟩
theorem rngL_snoc (n : Nat) : rngL (n + 1) = rngL n ++ [(n : Int)] := by unfold rngL; rw [List.range_succ, List.map_append]; rfl
structure Nm (on : List Int) (ms : List (Option Int)) (ns : List Int) : Prop where
  len : ns.length = on.length
  re : ∀ h, InR on.length h → Rch on ms h (lk ns h) ∧ lk ns h ≤ h
def sumN (ns : List Int) : Nat := (ns.map Int.toNat).sum
theorem sum_set : ∀ {ns : List Int} {j : Nat} {v : Int} (h : j < ns.length), sumN (ns.set j v) + (ns[j]).toNat = sumN ns + v.toNat
  | a :: r, 0, v, _ => by unfold sumN; simp; omega
  | a :: r, j + 1, v, h => by
    have := sum_set (ns := r) (j := j) (v := v) (by simpa using h)
    unfold sumN at this ⊢
    simp at this ⊢
    omega
section
variable {on : List Int} {ms : List (Option Int)} (S : SkinOk on ms)
include S
theorem Nm.start : Nm on ms (rngL on.length) := ⟨rngL_len _, fun h g => by
  have : lk (rngL on.length) h = h := by
    have e := rngL_get (n := on.length) (i := h.toNat) (by unfold InR at g; omega)
    unfold lk
    rw [List.getD_eq_getElem?_getD, e]
    unfold InR at g
    show ((h.toNat : Nat) : Int) = h
    omega
  rw [this]; exact ⟨.self, by omega⟩⟩
theorem Nm.rng {ns : List Int} (N : Nm on ms ns) {h : Int} (g : InR on.length h) : InR on.length (lk ns h) := (N.re h g).1.rng S g
theorem Nm.turn {ns : List Int} (N : Nm on ms ns) {h t v : Int} (g : InR on.length h) (r : Rch on ms h t) (ne : lk ns t ≠ lk ns h) (ev : v = if lk ns h < lk ns t then lk ns h else lk ns t) : Nm on ms ((ns.set t.toNat v).set h.toNat v) ∧ sumN ((ns.set t.toNat v).set h.toNat v) < sumN ns := by
  have gt := r.rng S g
  have rt := r.symm S g
  have nth : t ≠ h := fun z => ne (by rw [z])
  have vh : Rch on ms h v := by
    rw [ev]; split
    · exact (N.re h g).1
    · exact r.trans (N.re t gt).1
  have gv : InR on.length v := vh.rng S g
  have ll : InR ns.length h ∧ InR ns.length t := by rw [N.len]; exact ⟨g, gt⟩
  have lh := (N.re h g).2
  have lt := (N.re t gt).2
  have hv1 : v ≤ lk ns h := by rw [ev]; split <;> omega
  have hv2 : v ≤ lk ns t := by rw [ev]; split <;> omega
  refine ⟨⟨by simp [N.len], fun x gx => ?_⟩, ?_⟩
  · rw [lk_setI (by rw [List.length_set]; exact ll.1) gx.1]
    by_cases e : x = h
    · rw [if_pos e, e]; exact ⟨vh, by omega⟩
    · rw [if_neg e, lk_setI ll.2 gx.1]
      by_cases e2 : x = t
      · rw [if_pos e2, e2]; exact ⟨rt.trans vh, by omega⟩
      · rw [if_neg e2]; exact N.re x gx
  · unfold InR at ll g gt gv
    have h1 := sum_set (ns := ns) (j := t.toNat) (v := v) (by omega)
    have h2 := sum_set (ns := ns.set t.toNat v) (j := h.toNat) (v := v) (by simp; omega)
    rw [List.getElem_set_ne (by omega)] at h2
    have e1 : ns[t.toNat]'(by omega) = lk ns t := by
      have := lk_get (l := ns) (x := t) (by omega)
      rw [List.getElem?_eq_getElem (by omega)] at this; exact Option.some.inj this
    have e2 : ns[h.toNat]'(by omega) = lk ns h := by
      have := lk_get (l := ns) (x := h) (by omega)
      rw [List.getElem?_eq_getElem (by omega)] at this; exact Option.some.inj this
    rw [e1] at h1
    rw [e2] at h2
    have g1 := N.rng S g
    have g2 := N.rng S (h := t) gt
    unfold InR at g1 g2
    have : v < lk ns h ∨ v < lk ns t := by rw [ev]; split <;> omega
    omega
theorem Nm.last {ns : List Int} (N : Nm on ms ns) (h1 : ∀ h, InR on.length h → lk ns (lk on h) = lk ns h ∧ ∀ m, lkM ms h = some m → lk ns m = lk ns h) {h : Int} (g : InR on.length h) : lk ns h = repP on ms h := by
  have cst : ∀ {x}, Rch on ms h x → lk ns x = lk ns h := fun {x} r => by
    induction r with
    | self => rfl
    | next r ih => rw [(h1 _ (r.rng S g)).1]; exact ih
    | mate r e ih => rw [(h1 _ (r.rng S g)).2 _ e]; exact ih
  have hr := S.rep g
  have e1 := cst hr.2.1
  have e2 := (N.re _ hr.1).2
  have e3 := hr.2.2 _ (N.rng S g) (N.re h g).1
  omega
theorem SkinOk.parts_names {ns L : List Int} (hlen : ns.length = on.length) (hn : ∀ h, InR on.length h → lk ns h = repP on ms h) (pw : L.Pairwise (· < ·)) (hL : ∀ k, k ∈ L ↔ k ∈ ns) :
    partsL on ms = L.map fun k => (rngL on.length).filter fun h => decide (lk ns h = k) := by
  have mem : ∀ k, k ∈ ns ↔ InR on.length k ∧ repP on ms k = k := fun k => by
    constructor
    · intro z
      obtain ⟨i, hi, e⟩ := List.getElem_of_mem z
      have gi : InR on.length (i : Int) := by unfold InR; omega
      have : lk ns (i : Int) = k := by
        unfold lk
        rw [List.getD_eq_getElem?_getD, Int.toNat_natCast, List.getElem?_eq_getElem hi]
        exact e
      rw [hn _ gi] at this
      rw [← this]
      exact ⟨(S.rep gi).1, S.rep_rep gi⟩
    · rintro ⟨g, e⟩
      rw [← hn k g] at e
      have := lk_get (l := ns) (x := k) (by unfold InR at g; omega)
      rw [e] at this
      exact List.mem_of_getElem? this
  have eL : L = (rngL on.length).filter fun h => decide (repP on ms h = h) := pw_ext pw ((rngL_lt _).sublist List.filter_sublist) fun k => by
    rw [hL, mem, List.mem_filter, rngL_mem]; simp
  rw [S.parts_map, ← eL]
  refine List.map_congr_left fun k hk => ?_
  obtain ⟨g, e⟩ := (mem k).mp ((hL k).mp hk)
  refine pw_ext (partL_lt k) ((rngL_lt _).sublist List.filter_sublist) fun x => ?_
  rw [partL_mem, List.mem_filter, rngL_mem]
  constructor
  · rintro ⟨gx, r⟩
    exact ⟨gx, by rw [decide_eq_true_eq, hn x gx, ← S.rep_one g gx r, e]⟩
  · rintro ⟨gx, d⟩
    refine ⟨gx, (S.rep_iff g gx).mp ?_⟩
    rw [decide_eq_true_eq, hn x gx] at d
    rw [e, d]
end
end Hs
set_option Elab.async false
set_option linter.all false
set_option maxRecDepth 100000
set_option maxHeartbeats 1000000
namespace PySem
open PySem.Spec PyProof.Rows
namespace F
theorem entry_set_iter : entryFor table "set.__iter__" = some Builtin.«frozenset.__iter__» :=
  entryFor_alias (id' := "frozenset.__iter__") (by kernel_rfl) rfl (by decide +kernel) (by kernel_rfl)
theorem slot_setiter_next : Slot "set_iterator" "__next__" "set_iterator.__next__" :=
  .of (owner := "set_iterator") (n := "__next__") (by rw [typeLookup_type, builtinLookup_eq_fast]; kernel_rfl) (by decide +kernel) (by decide +kernel) (by decide +kernel)
    (by first | exact .inl (by decide +kernel) | exact .inr (by decide +kernel)) (by rw [isSubtype_type]; kernel_rfl)
theorem entry_setiter_next : entryFor table "set_iterator.__next__" = some Builtin.«set_iterator.__next__» := entryFor_of_fast (by kernel_rfl)
theorem args_setiter_next_1 (a : Value) : argsOk "set_iterator.__next__" ⟨[a], []⟩ := by unfold argsOk; kernel_rfl
theorem slot_setiter_iter : Slot "set_iterator" "__iter__" "set_iterator.__iter__" :=
  .of (owner := "set_iterator") (n := "__iter__") (by rw [typeLookup_type, builtinLookup_eq_fast]; kernel_rfl) (by decide +kernel) (by decide +kernel) (by decide +kernel)
    (by first | exact .inl (by decide +kernel) | exact .inr (by decide +kernel)) (by rw [isSubtype_type]; kernel_rfl)
theorem entry_setiter_iter : entryFor table "set_iterator.__iter__" = some Builtin.«dict_keyiterator.__iter__» :=
  entryFor_alias (id' := "dict_keyiterator.__iter__") (by kernel_rfl) rfl (by decide +kernel) (by kernel_rfl)
theorem args_setiter_iter_1 (a : Value) : argsOk "set_iterator.__iter__" ⟨[a], []⟩ := by unfold argsOk; kernel_rfl
end F
section
variable {prog : Program} {w : World} {A : Around} {E : Value → Shared → Prop} {s : Shared}
structure SetAt (h : Heap) (a : Addr) (es : Array (Int × Value)) (ep : Nat) (t : SetTable) : Prop where
  ex : ∃ o, h.get? a = some o ∧ o.ExactSet ∧ o.data = .set es ep t
  fits : t.fits es.size = true
theorem SetAt.at {h h' : Heap} {a : Addr} {es : Array (Int × Value)} {ep : Nat} {t : SetTable} (x : SetAt h a es ep t) (e : ∀ o, h.get? a = some o → h'.get? a = some o) : SetAt h' a es ep t :=
  let ⟨⟨o, ho, r⟩, f⟩ := x; ⟨⟨o, e o ho, r⟩, f⟩
theorem SetAt.typeIs {a : Addr} {es : Array (Int × Value)} {ep : Nat} {t : SetTable} (x : SetAt s.heap a es ep t) : s.TypeIs (.ref a) "set" := let ⟨⟨o, ho, hc, _⟩, _⟩ := x; ⟨o, ho, hc.1⟩
def drawnB (es : Array (Int × Value)) (t : SetTable) : Bool := !t.plain && decide (es.size > 1)
theorem byText_wp {Q : Bool → Shared → Prop} (h : Q (byTxt w) s) : wpAny (model prog w) A setsByText Q E s := by
  unfold setsByText
  exact wpAny_bind (wpAny_askSetting (wpAny_pure h))
theorem setDrawn_wp {a : Addr} {es : Array (Int × Value)} {ep : Nat} {t : SetTable} {Q : Bool → Shared → Prop} (x : SetAt s.heap a es ep t) (h : Q (!byTxt w && drawnB es t) s) : wpAny (model prog w) A (setDrawn a) Q E s := by
  obtain ⟨⟨o, ho, hc, hd⟩, hf⟩ := x
  unfold setDrawn
  refine wpAny_bind (wpAny_setState_of ho hd hf ?_)
  exact wpAny_bind (byText_wp (wpAny_pure h))
theorem setWalk_txt {a : Addr} {es : Array (Int × Value)} {ep : Nat} {t : SetTable} {Q : Array (Int × Value) → Shared → Prop} (x : SetAt s.heap a es ep t) (hb : byTxt w = true) (h : Q (pickOrder (w.params.setOrder a ep) es) s) : wpAny (model prog w) A (setWalk a) Q E s := by
  obtain ⟨⟨o, ho, hc, hd⟩, hf⟩ := x
  unfold setWalk
  refine wpAny_bind (wpAny_setState_of ho hd hf ?_)
  dsimp only
  refine wpAny_bind (byText_wp ?_)
  rw [if_pos hb]
  exact wpAny_bind (wpAny_askSetting (wpAny_pure h))
theorem setNext_txt {a : Addr} {es : Array (Int × Value)} {ep : Nat} {t : SetTable} {sl g : Nat} {Q : Option (Value × Nat) → Shared → Prop} (x : SetAt s.heap a es ep t) (hb : byTxt w = true)
    (h : Q (((pickOrder (w.params.setOrder a ep) es)[g]?).map fun e => (e.2, sl)) s) : wpAny (model prog w) A (setNext a sl g ep) Q E s := by
  obtain ⟨⟨o, ho, hc, hd⟩, hf⟩ := id x
  unfold setNext
  refine wpAny_bind (wpAny_setState_of ho hd hf ?_)
  dsimp only
  refine wpAny_bind (byText_wp ?_)
  rw [if_pos hb]
  simp only [bne_self_eq_false, Bool.false_eq_true, if_false, ↓reduceIte, pure_bind]
  exact wpAny_bind (setWalk_txt x hb (wpAny_pure h))
theorem setNext_led {a : Addr} {es : Array (Int × Value)} {ep : Nat} {t : SetTable} {sl g : Nat} {Q : Option (Value × Nat) → Shared → Prop} (x : SetAt s.heap a es ep t) (hb : byTxt w = false) (hd' : drawnB es t = false) (hl : t.led = true)
    (h : Q (match es[SetTable.below t.place sl]?, t.place[SetTable.below t.place sl]? with | some (_, x), some j => some (x, j + 1) | _, _ => none) s) : wpAny (model prog w) A (setNext a sl g ep) Q E s := by
  obtain ⟨⟨o, ho, hc, hd⟩, hf⟩ := id x
  unfold setNext
  refine wpAny_bind (wpAny_setState_of ho hd hf ?_)
  dsimp only
  refine wpAny_bind (byText_wp ?_)
  rw [if_neg (by rw [hb]; decide)]
  split
  · rename_i c
    have c : drawnB es t = true := c
    rw [hd'] at c; cases c
  · refine wpAny_bind (wpAny_of_eq (a := ()) ?_ (wpAny_pure h))
    show (if (!t.led && !es.isEmpty) = true then _ else _) = _
    rw [if_neg (by rw [hl]; exact Bool.false_ne_true)]
theorem setNextDrawn_wp {a : Addr} {es : Array (Int × Value)} {ep pl : Nat} {t : SetTable} {e : Int × Value} {Q : Value → Shared → Prop} (x : SetAt s.heap a es ep t) (he : es[pl]? = some e) (h : Q e.2 s) : wpAny (model prog w) A (setNextDrawn a pl ep) Q E s := by
  obtain ⟨⟨o, ho, hc, hd⟩, hf⟩ := id x
  unfold setNextDrawn
  refine wpAny_bind (wpAny_setState_of ho hd hf ?_)
  dsimp only
  simp only [bne_self_eq_false, Bool.false_eq_true, if_false, ↓reduceIte, pure_bind]
  rw [he]
  exact wpAny_pure h
theorem choose_wp {src : Source} {n : Nat} {Q : Nat → Shared → Prop} (hn : n ≠ 0) (h : ∀ i, i < n → ∀ d, Q i { s with drawn := d }) : wpAny (model prog w) A (choose src n) Q E s := fun Γ p hΓ => by
  unfold choose
  exact ⟨hn, h _ (Nat.mod_lt _ (Nat.pos_of_ne_zero hn)) _⟩
theorem erase_perm {α : Type} {l : List α} {i : Nat} (h : i < l.length) : (l[i] :: l.eraseIdx i).Perm l := by
  rw [List.eraseIdx_eq_take_drop_succ]
  have e : l = l.take i ++ l[i] :: l.drop (i + 1) := by rw [← List.drop_eq_getElem_cons h, List.take_append_drop]
  exact (List.perm_middle.symm).trans (by rw [← e])
theorem drawOrder_wp {α : Type} : ∀ (n : Nat) (xs : List α) (s : Shared) (Q : List α → Shared → Prop), n = xs.length → (∀ ys d, ys.Perm xs → Q ys { s with drawn := d }) → wpAny (model prog w) A (drawOrder n xs) Q E s
  | 0, xs, s, Q, hn, h => by
    have : xs = [] := List.length_eq_zero_iff.mp hn.symm
    subst this
    unfold drawOrder
    exact wpAny_pure (h [] s.drawn (List.Perm.refl _))
  | n + 1, [], s, Q, hn, h => by cases hn
  | n + 1, x :: xs, s, Q, hn, h => by
    unfold drawOrder
    refine wpAny_bind (choose_wp (by simp) fun i hi d => ?_)
    rw [List.getElem?_eq_getElem hi]
    dsimp only
    refine wpAny_bind (drawOrder_wp n _ _ _ (by rw [List.length_eraseIdx_of_lt hi]; simp at hn ⊢; omega) fun ys d' hp => ?_)
    exact wpAny_pure (h _ d' ((hp.cons _).trans (erase_perm hi)))
def ItAt (h : Heap) (I : Addr) (vs : Array Value) : Prop := ∃ o, h.get? I = some o ∧ o.cls = .type "set_iterator" ∧ o.data = .fields vs
theorem ItAt.typeIs {I : Addr} {vs : Array Value} (x : ItAt s.heap I vs) : s.TypeIs (.ref I) "set_iterator" := let ⟨o, ho, hc, _⟩ := x; ⟨o, ho, hc⟩
theorem ItAt.at {h h' : Heap} {I : Addr} {vs : Array Value} (x : ItAt h I vs) (e : ∀ o, h.get? I = some o → h'.get? I = some o) : ItAt h' I vs := let ⟨o, ho, r⟩ := x; ⟨o, e o ho, r⟩
theorem ItAt.set {h : Heap} {I : Addr} {vs : Array Value} (x : ItAt h I vs) (i : Nat) (v : Value) : ItAt (h.update I (Obj.mapFields (·.setIfInBounds i v))) I (vs.setIfInBounds i v) := by
  obtain ⟨o, ho, hc, hd⟩ := x
  exact ⟨_, Heap.get?_update_self _ ho (Obj.isFreed_of_fields (Obj.data_mapFields hd _)), (Obj.cls_mapFields ..).trans hc, Obj.data_mapFields hd _⟩
theorem setF_wp {I : Addr} {vs : Array Value} {i : Nat} {v : Value} {Q : Unit → Shared → Prop} (x : ItAt s.heap I vs) (hi : i < vs.size) (h : ∀ h', ItAt h' I (vs.setIfInBounds i v) → Heap.SameBut I s.heap h' → Q () { s with heap := h' }) : wpAny (model prog w) A (setField (.ref I) i v) Q E s := by
  obtain ⟨o, ho, hc, hd⟩ := id x
  exact wpAny_setField ho hd hi (h _ (x.set i v) (Heap.SameBut.update ..))
theorem pyIter_self {I : Addr} {vs : Array Value} {Q : Value → Shared → Prop} (x : ItAt s.heap I vs) (h : Q (.ref I) s) : wpAny (model prog w) A (pyIter (.ref I)) Q E s := by
  refine wpAny_pyIter_slot x.typeIs F.slot_setiter_iter (wpAny_call_entry F.slot_setiter_iter x.typeIs F.entry_setiter_iter ?_ (F.args_setiter_iter_1 _))
  show wpAny _ _ (ret (.ref I)) _ _ s
  exact wpAny_pure ⟨_, rfl, "set_iterator", _, x.typeIs, F.slot_setiter_next.lookup, h⟩
theorem stop_wp {I : Addr} {vs : Array Value} {A' : Around} {Q : Fin → Shared → Prop} {E' : Value → Shared → Prop} (hh : A'.handled = none) (x : ItAt s.heap I vs) (h2 : 2 < vs.size)
    (h : ∀ (e : Value) (s' : Shared), s'.TypeIs e "StopIteration" → (∃ h', s' = { s with heap := h' } ∧ Heap.ExtBut I s.heap h') → E' e s') :
    wpAny (model prog w) A' (do setField (.ref I) 2 .none; raiseNew (← newExc (.type "StopIteration") [])) Q E' s := by
  refine wpAny_bind (setF_wp x h2 fun h' x' sb => ?_)
  show wpAny _ _ (newExc (.type "StopIteration") [] >>= _) _ _ _
  refine wpAny_bind ?_
  simp only [newExc, newTuple]
  refine wpAny_bind (wpAny_newObj_type ?_ (by size_fits))
  refine wpAny_bind (m := firstArgMember _ _) (wpAny_of_eq (a := Value.none) (by first | rfl | (simp only [firstArgMember]; rfl)) ?_)
  refine wpAny_newObj_type ?_ (by size_fits)
  simp only [raiseNew]
  refine wpAny_bind (wpAny_handled ?_)
  rw [hh]
  refine wpAny_bind (wpAny_pure (wpAny_throw ?_))
  exact h _ _ ⟨_, Heap.get?_push_size _ rfl, rfl⟩ ⟨_, rfl, (sb.extBut.push _).push _⟩
end
end PySem
set_option Elab.async false
set_option linter.all false
set_option maxRecDepth 100000
set_option maxHeartbeats 1000000
namespace PySem
open PySem.Spec PyProof.Rows
section
variable {prog : Program} {w : World} {A : Around} {E : Value → Shared → Prop} {s : Shared}
def itV (first : Value) (i : Nat) (S : Addr) (n ep : Nat) : Array Value := #[first, rawInt i, .ref S, rawInt n, rawInt ep]
theorem walks_slot {I S T : Addr} {es : Array (Int × Value)} {ep : Nat} {t : SetTable} {out : List Value} (Ok : Nat → Nat → Prop) (hh : A.handled = none) (ne : S ≠ I)
    (step : ∀ (A : Around) (i sl : Nat) (s : Shared) (Q : Option (Value × Nat) → Shared → Prop) (E : Value → Shared → Prop), Ok i sl → i < es.size → SetAt s.heap S es ep t → (∀ v sl', out[i]? = some v → Ok (i + 1) sl' → Q (some (v, sl')) s) → wpAny (model prog w) A (setNext S sl i ep) Q E s)
    (fin : ∀ (A : Around) (sl : Nat) (s : Shared) (Q : Option (Value × Nat) → Shared → Prop) (E : Value → Shared → Prop), Ok es.size sl → SetAt s.heap S es ep t → Q none s → wpAny (model prog w) A (setNext S sl es.size ep) Q E s) :
    Walks prog w A I [I, S, T] [I] es.size (fun i v => out[i]? = some v) (fun i h => ∃ sl : Nat, ItAt h I (itV (rawInt sl) i S es.size ep) ∧ SetAt h S es ep t ∧ Ok i sl) where
  sub := fun b hb => by simp at hb; simp [hb]
  frame := fun _ _ _ ⟨sl, st⟩ hk => ⟨sl, st.1.at fun o e => hk I (by simp) o e, st.2.1.at fun o e => hk S (by simp) o e, st.2.2⟩
  item := fun i s Q E hi ⟨sl, x, y, ok⟩ hQ => by
    obtain ⟨o, ho, hc, hd⟩ := id x
    obtain ⟨⟨o2, ho2, hc2, hd2⟩, hf2⟩ := id y
    unfold pyNext
    refine wpAny_bind (wpAny_attempt (wpAny_callSpecial?_slot (name := Str.ofString "__next__") x.typeIs F.slot_setiter_next
      (wpAny_call_entry F.slot_setiter_next x.typeIs F.entry_setiter_next ?_ (F.args_setiter_next_1 _))))
    unfold Builtin.«set_iterator.__next__»
    refine wpAny_bind (wpAny_of_eq (a := (Value.ref I, [])) rfl ?_)
    refine wpAny_bind (wpAny_fieldsOf ho hd ?_)
    unfold itV rawInt
    dsimp only
    refine wpAny_bind (wpAny_setEntries_of ho2 hd2 hf2 ?_)
    rw [if_neg (by simp)]
    show wpAny _ _ (setNext S sl i ep >>= _) _ _ _
    refine wpAny_bind (step _ i sl s _ _ ok hi y fun v sl' hv ok' => ?_)
    dsimp only
    refine wpAny_bind (setF_wp x (by simp [itV]) fun h1 x1 sb1 => ?_)
    refine wpAny_bind (setF_wp (s := { s with heap := h1 }) x1 (by simp [itV]) fun h2 x2 sb2 => ?_)
    refine wpAny_pure ⟨v, rfl, wpAny_pure (hQ v h2 s.toks hv ⟨sl', x2, y.at fun o e => ?_, ok'⟩ fun b o hb e => ?_)⟩
    · exact sb2.extBut S o ne (sb1.extBut S o ne e)
    · have nb : b ≠ I := fun z => hb (by simp [z])
      exact sb2.extBut b o nb (sb1.extBut b o nb e)
  done := fun s Q E ⟨sl, x, y, ok⟩ hQ => by
    obtain ⟨o, ho, hc, hd⟩ := id x
    obtain ⟨⟨o2, ho2, hc2, hd2⟩, hf2⟩ := id y
    unfold pyNext
    refine wpAny_bind (wpAny_attempt (wpAny_callSpecial?_slot (name := Str.ofString "__next__") x.typeIs F.slot_setiter_next
      (wpAny_call_entry F.slot_setiter_next x.typeIs F.entry_setiter_next ?_ (F.args_setiter_next_1 _))))
    unfold Builtin.«set_iterator.__next__»
    refine wpAny_bind (wpAny_of_eq (a := (Value.ref I, [])) rfl ?_)
    refine wpAny_bind (wpAny_fieldsOf ho hd ?_)
    unfold itV rawInt
    dsimp only
    refine wpAny_bind (wpAny_setEntries_of ho2 hd2 hf2 ?_)
    rw [if_neg (by simp)]
    show wpAny _ _ (setNext S sl es.size ep >>= _) _ _ _
    refine wpAny_bind (fin _ sl s _ _ ok y ?_)
    dsimp only
    refine stop_wp (A' := A.in1) hh x (by simp [itV]) fun e s' ht ⟨h', es', eb⟩ => ?_
    subst es'
    refine wpAny_bind (wpAny_isInstance (T := "StopIteration") (b := true) ht isSubtype_stop ?_)
    exact wpAny_pure (hQ h' s.toks fun b o hb e => eb b o (fun z => hb (by simp [z])) e)
  self := fun i s Q E ⟨sl, x, y, ok⟩ hQ => pyIter_self x hQ
end
end PySem
set_option Elab.async false
set_option linter.all false
set_option maxRecDepth 100000
set_option maxHeartbeats 1000000
namespace PySem
open PySem.Spec PyProof.Rows
section
variable {prog : Program} {w : World} {A : Around} {E : Value → Shared → Prop} {s : Shared}
def PlAt (h : Heap) (T : Addr) (items : Array Value) : Prop := ∃ (o : Obj) (n : Nat), h.get? T = some o ∧ o.data = .seq items n
theorem PlAt.at {h h' : Heap} {T : Addr} {items : Array Value} (x : PlAt h T items) (e : ∀ o, h.get? T = some o → h'.get? T = some o) : PlAt h' T items := let ⟨o, n, ho, r⟩ := x; ⟨o, n, e o ho, r⟩
theorem walks_drawn {I S T : Addr} {es : Array (Int × Value)} {ep : Nat} {t : SetTable} {out : List Value} {ys : List Nat} (hh : A.handled = none) (ne : S ≠ I) (neT : T ≠ I) (hl : ys.length = es.size)
    (step : ∀ (i y : Nat), ys[i]? = some y → ∃ e : Int × Value, es[y]? = some e ∧ out[i]? = some e.2) :
    Walks prog w A I [I, S, T] [I] es.size (fun i v => out[i]? = some v) (fun i h => ItAt h I (itV (.ref T) i S es.size ep) ∧ SetAt h S es ep t ∧ PlAt h T (ys.map fun (i : Nat) => rawInt i).toArray) where
  sub := fun b hb => by simp at hb; simp [hb]
  frame := fun _ _ _ st hk => ⟨st.1.at fun o e => hk I (by simp) o e, st.2.1.at fun o e => hk S (by simp) o e, st.2.2.at fun o e => hk T (by simp) o e⟩
  item := fun i s Q E hi ⟨x, y, z⟩ hQ => by
    obtain ⟨o, ho, hc, hd⟩ := id x
    obtain ⟨⟨o2, ho2, hc2, hd2⟩, hf2⟩ := id y
    obtain ⟨o3, n3, ho3, hd3⟩ := id z
    unfold pyNext
    refine wpAny_bind (wpAny_attempt (wpAny_callSpecial?_slot (name := Str.ofString "__next__") x.typeIs F.slot_setiter_next
      (wpAny_call_entry F.slot_setiter_next x.typeIs F.entry_setiter_next ?_ (F.args_setiter_next_1 _))))
    unfold Builtin.«set_iterator.__next__»
    refine wpAny_bind (wpAny_of_eq (a := (Value.ref I, [])) rfl ?_)
    refine wpAny_bind (wpAny_fieldsOf ho hd ?_)
    unfold itV rawInt
    dsimp only
    refine wpAny_bind (wpAny_setEntries_of ho2 hd2 hf2 ?_)
    rw [if_neg (by simp)]
    refine wpAny_bind (wpAny_seqItems ho3 hd3 ?_)
    dsimp only
    have hy : ys[i]? = some (ys[i]'(by omega)) := List.getElem?_eq_getElem (by omega)
    obtain ⟨e, e1, e2⟩ := step i _ hy
    have hp : (ys.map fun (i : Nat) => rawInt i).toArray[(i : Int).toNat]? = some (rawInt ((ys[i]'(by omega) : Nat) : Int)) := by
      rw [Int.toNat_natCast, List.getElem?_toArray, List.getElem?_map, hy]; rfl
    rw [hp]
    show wpAny _ _ (setNextDrawn S (((ys[i]'(by omega) : Nat) : Int)).toNat ep >>= _) _ _ _
    rw [Int.toNat_natCast]
    refine wpAny_bind (setNextDrawn_wp y e1 ?_)
    refine wpAny_bind (setF_wp x (by simp [itV]) fun h1 x1 sb1 => ?_)
    refine wpAny_pure ⟨e.2, rfl, wpAny_pure (hQ e.2 h1 s.toks e2 ⟨x1, y.at fun o e => ?_, z.at fun o e => ?_⟩ fun b o hb e => ?_)⟩
    · exact sb1.extBut S o ne e
    · exact sb1.extBut T o neT e
    · exact sb1.extBut b o (fun z => hb (by simp [z])) e
  done := fun s Q E ⟨x, y, z⟩ hQ => by
    obtain ⟨o, ho, hc, hd⟩ := id x
    obtain ⟨⟨o2, ho2, hc2, hd2⟩, hf2⟩ := id y
    obtain ⟨o3, n3, ho3, hd3⟩ := id z
    unfold pyNext
    refine wpAny_bind (wpAny_attempt (wpAny_callSpecial?_slot (name := Str.ofString "__next__") x.typeIs F.slot_setiter_next
      (wpAny_call_entry F.slot_setiter_next x.typeIs F.entry_setiter_next ?_ (F.args_setiter_next_1 _))))
    unfold Builtin.«set_iterator.__next__»
    refine wpAny_bind (wpAny_of_eq (a := (Value.ref I, [])) rfl ?_)
    refine wpAny_bind (wpAny_fieldsOf ho hd ?_)
    unfold itV rawInt
    dsimp only
    refine wpAny_bind (wpAny_setEntries_of ho2 hd2 hf2 ?_)
    rw [if_neg (by simp)]
    refine wpAny_bind (wpAny_seqItems ho3 hd3 ?_)
    dsimp only
    have hp : (ys.map fun (i : Nat) => rawInt i).toArray[(es.size : Int).toNat]? = none := by
      rw [Int.toNat_natCast, List.getElem?_toArray]
      exact List.getElem?_eq_none (by simp; omega)
    rw [hp]
    dsimp only
    refine wpAny_bind (setF_wp x (by simp [itV]) fun h1 x1 sb1 => ?_)
    refine stop_wp (A' := A.in1) (s := { s with heap := h1 }) hh x1 (by simp [itV]) fun e s' ht ⟨h', es', eb⟩ => ?_
    subst es'
    refine wpAny_bind (wpAny_isInstance (T := "StopIteration") (b := true) ht isSubtype_stop ?_)
    exact wpAny_pure (hQ h' s.toks fun b o hb e => eb b o (fun z => hb (by simp [z])) (sb1.extBut b o (fun z => hb (by simp [z])) e))
  self := fun i s Q E ⟨x, y, z⟩ hQ => pyIter_self x hQ
theorem pickOrder_go {α : Type} (next : Nat → Nat) : ∀ (fuel k : Nat) (left : List α) (out : Array α), left.length ≤ fuel → (pickOrder.go next fuel k left out).toList.Perm (out.toList ++ left)
  | 0, k, left, out, h => by
    have : left = [] := List.length_eq_zero_iff.mp (by omega)
    subst this
    unfold pickOrder.go
    rw [List.append_nil]
  | fuel + 1, k, left, out, h => by
    unfold pickOrder.go
    cases hl : left with
    | nil =>
      rw [List.append_nil]
      simp
    | cons a r =>
      rw [← hl]
      have hi : next k % left.length < left.length := Nat.mod_lt _ (by rw [hl]; simp)
      rw [List.getElem?_eq_getElem hi]
      dsimp only
      refine (pickOrder_go next fuel (k + 1) _ _ (by rw [List.length_eraseIdx_of_lt hi]; omega)).trans ?_
      rw [Array.toList_push, List.append_assoc]
      exact (erase_perm hi).append_left _
theorem pickOrder_perm {α : Type} (next : Nat → Nat) (xs : Array α) : (pickOrder next xs).toList.Perm xs.toList := by
  unfold pickOrder
  have := pickOrder_go next xs.size 0 xs.toList #[] (by simp)
  simpa using this
theorem pyIter_set {S : Addr} {es : Array (Int × Value)} {ep : Nat} {t : SetTable} {Q : Value → Shared → Prop} (x : SetAt s.heap S es ep t) (hl : LedT w t) (hz : es.size < scanBound)
    (h : ∀ (I T : Addr) (St : Nat → Heap → Prop) (out : List Value) (h' : Heap) (d : Drawn), out.Perm (es.toList.map (·.2)) → (∀ A' : Around, A'.handled = none → Walks prog w A' I [I, S, T] [I] es.size (fun i v => out[i]? = some v) St) → St 0 h' →
      (∀ b o, s.heap.get? b = some o → h'.get? b = some o) → I < h'.objs.size → T < h'.objs.size → s.heap.objs.size ≤ I → (T = S ∨ s.heap.objs.size ≤ T) → Q (.ref I) { s with heap := h', drawn := d }) : wpAny (model prog w) A (pyIter (.ref S)) Q E s := by
  have hT := x.typeIs
  obtain ⟨⟨o2, ho2, hc2, hd2⟩, hf2⟩ := id x
  have hlt := Heap.lt_size ho2
  refine wpAny_pyIter_slot hT F.slot_set_iter (wpAny_call_entry F.slot_set_iter hT F.entry_set_iter ?_ (F.args_set_iter_1 _))
  unfold Builtin.«frozenset.__iter__»
  refine wpAny_bind (wpAny_of_eq (a := S) rfl ?_)
  unfold Builtin.Frozenset.sizeOf
  refine wpAny_bind (wpAny_bind (wpAny_setEntries_of ho2 hd2 hf2 (wpAny_pure ?_)))
  refine wpAny_bind (setDrawn_wp x ?_)
  have psz : t.place.size = es.size := by
    have := hf2
    unfold SetTable.fits at this
    simp at this
    exact this.1
  by_cases hdr : (!byTxt w && drawnB es t) = true
  · rw [if_pos hdr]
    refine wpAny_bind (drawOrder_wp es.size (List.range es.size) _ _ (by simp) fun ys d hp => ?_)
    have yl : ys.length = es.size := by rw [hp.length_eq]; simp
    refine wpAny_bind (wpAny_newTuple (items := ys.map fun (i : Nat) => rawInt i) ?_ (by rw [List.length_map, yl, sizeLine_eq]; unfold scanBound at hz; omega))
    have ho3 : (s.heap.push { cls := .type "tuple", data := .seq (ys.map fun (i : Nat) => rawInt i).toArray }).get? S = some o2 := Heap.get?_push_of_some _ ho2
    refine wpAny_bind (wpAny_setEpoch_of (s := { s with heap := s.heap.push { cls := .type "tuple", data := .seq (ys.map fun (i : Nat) => rawInt i).toArray }, drawn := d }) ho3 hd2 hf2 ?_)
    unfold newFields
    refine wpAny_bind (wpAny_newObj_type (wpAny_pure ⟨_, rfl, "set_iterator", _, ⟨_, Heap.get?_push_size _ rfl, rfl⟩, F.slot_setiter_next.lookup, ?_⟩))
    refine h _ s.heap.objs.size _ (ys.map fun i => (es.getD i (0, .none)).2) _ d ?_ (fun A' hA => walks_drawn (ys := ys) (t := t) (ep := ep) hA ?_ ?_ yl fun i y hy => ?_) ⟨⟨_, Heap.get?_push_size _ rfl, rfl, rfl⟩, x.at fun o e => Heap.get?_push_of_some _ (Heap.get?_push_of_some _ e), ⟨_, 0, Heap.get?_push_of_some _ (Heap.get?_push_size _ rfl), rfl⟩⟩ (fun b o e => Heap.get?_push_of_some _ (Heap.get?_push_of_some _ e)) ?_ ?_ ?_ (.inr (Nat.le_refl _))
    · have e1 : es.toList.map (·.2) = (List.range es.size).map fun i => (es.getD i (0, .none)).2 := by
        apply List.ext_getElem?
        intro i
        rw [List.getElem?_map, List.getElem?_map]
        by_cases hi : i < es.size
        · rw [List.getElem?_range hi]
          simp [Array.getD, hi]
        · rw [List.getElem?_eq_none (by simp; omega), List.getElem?_eq_none (by simp; omega)]; rfl
      rw [e1]
      exact hp.map _
    · show S ≠ (s.heap.push _).objs.size
      rw [Heap.size_push]; exact Nat.ne_of_lt (Nat.lt_succ_of_lt hlt)
    · show s.heap.objs.size ≠ (s.heap.push _).objs.size
      rw [Heap.size_push]; omega
    · have hm : y ∈ List.range es.size := hp.mem_iff.mp (List.mem_of_getElem? hy)
      have hy' := List.mem_range.mp hm
      refine ⟨es[y], Array.getElem?_eq_getElem hy', ?_⟩
      rw [List.getElem?_map, hy]
      simp [Array.getD, hy']
    · show (s.heap.push _).objs.size < ((s.heap.push _).push _).objs.size
      simp only [Heap.size_push]; omega
    · show s.heap.objs.size < ((s.heap.push _).push _).objs.size
      simp only [Heap.size_push]; omega
    · show s.heap.objs.size ≤ (s.heap.push _).objs.size
      rw [Heap.size_push]; omega
  · rw [if_neg hdr]
    refine wpAny_bind (wpAny_pure ?_)
    refine wpAny_bind (wpAny_setEpoch_of ho2 hd2 hf2 ?_)
    unfold newFields
    refine wpAny_bind (wpAny_newObj_type (wpAny_pure ⟨_, rfl, "set_iterator", _, ⟨_, Heap.get?_push_size _ rfl, rfl⟩, F.slot_setiter_next.lookup, ?_⟩))
    have fin : ∀ (out : List Value) (Ok : Nat → Nat → Prop), Ok 0 0 → out.Perm (es.toList.map (·.2)) →
        (∀ (A : Around) (i sl : Nat) (s : Shared) (Q : Option (Value × Nat) → Shared → Prop) (E : Value → Shared → Prop), Ok i sl → i < es.size → SetAt s.heap S es ep t → (∀ v sl', out[i]? = some v → Ok (i + 1) sl' → Q (some (v, sl')) s) → wpAny (model prog w) A (setNext S sl i ep) Q E s) →
        (∀ (A : Around) (sl : Nat) (s : Shared) (Q : Option (Value × Nat) → Shared → Prop) (E : Value → Shared → Prop), Ok es.size sl → SetAt s.heap S es ep t → Q none s → wpAny (model prog w) A (setNext S sl es.size ep) Q E s) →
        Q (.ref s.heap.objs.size) { s with heap := s.heap.push { cls := .type "set_iterator", dict := none, data := .fields #[rawInt 0, rawInt 0, .ref S, rawInt es.size, rawInt ep] } } := fun out Ok ok0 hp step fin => by
      refine h s.heap.objs.size S _ out _ s.drawn hp (fun A' hA => walks_slot (T := S) Ok hA (Nat.ne_of_lt hlt) step fin) ⟨0, ⟨_, Heap.get?_push_size _ rfl, rfl, rfl⟩, x.at fun o e => Heap.get?_push_of_some _ e, ok0⟩ (fun b o e => Heap.get?_push_of_some _ e) ?_ ?_ (Nat.le_refl _) (.inl rfl)
      · show s.heap.objs.size < (s.heap.push _).objs.size
        rw [Heap.size_push]; omega
      · show S < (s.heap.push _).objs.size
        rw [Heap.size_push]; exact Nat.lt_succ_of_lt hlt
    cases hb : byTxt w with
    | true =>
      refine fin ((pickOrder (w.params.setOrder S ep) es).toList.map (·.2)) (fun _ _ => True) trivial ((pickOrder_perm _ _).map _) (fun A i sl s Q E _ hi y hQ => ?_) fun A sl s Q E _ y hQ => ?_
      · have hl' : (pickOrder (w.params.setOrder S ep) es).size = es.size := by have := (pickOrder_perm (w.params.setOrder S ep) es).length_eq; simpa using this
        refine setNext_txt y hb ?_
        have e1 : (pickOrder (w.params.setOrder S ep) es)[i]? = some ((pickOrder (w.params.setOrder S ep) es)[i]'(by omega)) := Array.getElem?_eq_getElem (by omega)
        rw [e1]
        exact hQ _ sl (by rw [List.getElem?_map, Array.getElem?_toList, e1]; rfl) trivial
      · have hl' : (pickOrder (w.params.setOrder S ep) es).size = es.size := by have := (pickOrder_perm (w.params.setOrder S ep) es).length_eq; simpa using this
        refine setNext_txt y hb ?_
        rw [Array.getElem?_eq_none (by omega)]
        exact hQ
    | false =>
      have hd' : drawnB es t = false := by
        rw [hb] at hdr
        simpa using hdr
      have hled : t.led = true := by rw [hl.1, hb]; rfl
      refine fin (es.toList.map (·.2)) (fun i sl => SetTable.below t.place sl = i) (SetTable.below_zero hl.2) (List.Perm.refl _) (fun A i sl s Q E ok hi y hQ => ?_) fun A sl s Q E ok y hQ => ?_
      · refine setNext_led y hb hd' hled ?_
        rw [ok]
        have e1 : es[i]? = some es[i] := Array.getElem?_eq_getElem hi
        have e2 : t.place[i]? = some (t.place[i]'(by omega)) := Array.getElem?_eq_getElem (by omega)
        rw [e1, e2]
        exact hQ _ _ (by rw [List.getElem?_map, Array.getElem?_toList, e1]; rfl) (SetTable.below_succ hl.2 e2)
      · refine setNext_led y hb hd' hled ?_
        rw [ok]
        have e1 : es[es.size]? = none := Array.getElem?_eq_none (by omega)
        rw [e1]
        exact hQ
end
end PySem
set_option Elab.async false
set_option linter.all false
set_option maxRecDepth 100000
set_option maxHeartbeats 1000000
namespace L2
open PySem PySem.Spec PyProof.Rows
section
variable {X : Cx}
end
section
variable {X : Cx} {pins : List (Addr × Obj)} {σ : St} {H : Hp} {s : Shared} {a b : Addr} {kvs more : List (Key × V)} {A : Around} {E : Value → Shared → Prop}
end
section
variable {X : Cx} {o e f : Expr} {apos cpos : Pos} {td ty tx : TE}
end
end L2
set_option Elab.async false
set_option linter.all false
set_option maxRecDepth 100000
set_option maxHeartbeats 1000000
namespace L2
open PySem PySem.Spec PyProof.Rows
end L2
namespace Hs
open PySem PySem.Spec PyProof.Rows L2
end Hs
set_option Elab.async false
set_option linter.all false
set_option maxRecDepth 100000
set_option maxHeartbeats 1000000
namespace PySem
open PySem.Spec PyProof.Rows
section
variable {prog : Program} {w : World} {A : Around} {E : Value → Shared → Prop} {s : Shared}
theorem collect_set {S : Addr} {es : Array (Int × Value)} {ep : Nat} {t : SetTable} {Q : List Value → Shared → Prop} (hh : A.handled = none) (x : SetAt s.heap S es ep t) (hl : LedT w t) (hz : es.size < scanBound)
    (hQ : ∀ (acc : List Value) (h' : Heap) (tk : Nat) (d : Drawn), acc.Perm (es.toList.map (·.2)) → (∀ b o, s.heap.get? b = some o → h'.get? b = some o) → s.heap.objs.size ≤ h'.objs.size → Q acc { s with heap := h', toks := tk, drawn := d }) :
    wpAny (model prog w) A (collect (.ref S)) Q E s := by
  obtain ⟨⟨o2, ho2, hc2, hd2⟩, hf2⟩ := id x
  have hlt := Heap.lt_size ho2
  unfold collect
  refine wpAny_bind (wpAny_runValue (codeAny_builtin F.entry_proto_collect ?_))
  rw [Around.under_plainId F.plain_proto_collect _]
  show wpAny _ A.in1 (newList [] >>= fun l => again (.builtin "list.__iadd__" ⟨[l, .ref S], []⟩)) _ _ s
  refine wpAny_bind (wpAny_newObj_type ?_)
  refine wpAny_pure ⟨plainId_quiet F.plain_list_iadd _, codeAny_builtin F.entry_list_iadd ?_⟩
  rw [Around.under_plainId F.plain_list_iadd _]
  show wpAny _ A.in1 (Builtin.List.listExtendWith (.ref s.heap.objs.size) (.ref S) (.ref s.heap.objs.size)) _ _ _
  unfold Builtin.List.listExtendWith
  have x1 : SetAt (s.heap.push { cls := .type "list", data := .seq ([] : List Value).toArray }) S es ep t := x.at fun o e => Heap.get?_push_of_some _ e
  refine wpAny_bind (wpAny_typeOf (SetAt.typeIs (s := { s with heap := s.heap.push { cls := .type "list", data := .seq ([] : List Value).toArray } }) x1) ?_)
  have hSI : s.heap.objs.size ≠ S := fun e => by rw [e] at hlt; exact Nat.lt_irrefl _ hlt
  have h1 : Builtin.List.listSameRef (.ref s.heap.objs.size) (.ref S) = false := by simp [Builtin.List.listSameRef, hSI]
  have h2 : (Value.type "set" == Value.type "list") = false := by decide
  have h3 : (Value.type "set" == Value.type "tuple") = false := by decide
  simp only [h1, h2, h3, Bool.or_false, Bool.false_eq_true, if_false]
  refine wpAny_bind (pyIter_set (s := { s with heap := s.heap.push { cls := .type "list", data := .seq ([] : List Value).toArray } }) x1 hl hz fun I T St out h' d hp W st k0 kI kT kL kTS => ?_)
  refine wpAny_bind (wpAny_holding ?_)
  unfold Builtin.List.listLengthHint
  have x2 : SetAt h' S es ep t := x1.at fun o e => k0 _ _ e
  have ty2 := SetAt.typeIs (s := { s with heap := h', drawn := d }) x2
  refine wpAny_bind (wpAny_specialOf ty2 F.slot_set_len.lookup ?_)
  generalize hid : ("set.__len__" : String) = id0
  wp_delta
  rw [show splitId id0 = some ("set", "__len__") from by subst hid; decide +kernel]
  subst hid
  refine wpAny_bind (wpAny_isInstance (b := true) ty2 (by rw [isSubtype_type]; kernel_rfl) ?_)
  show wpAny _ A.in1 (typeOf (Value.ref S) >>= _) _ _ _
  refine wpAny_bind (wpAny_typeOf ty2 ?_)
  refine wpAny_pure ?_
  show wpAny _ A.in1 (rule "list.extend.makes-room" >>= fun _ => Builtin.List.listTouch (.ref s.heap.objs.size) >>= fun _ =>
    again (.builtin "list.extend.loop" ⟨[.ref s.heap.objs.size, .ref I, .ref s.heap.objs.size], []⟩)) _ _ _
  refine wpAny_bind (wpAny_rule ?_)
  have hS₁ : h'.get? s.heap.objs.size = some { cls := .type "list", data := .seq ([] : List Value).toArray } := k0 _ _ (Heap.get?_push_size _ rfl)
  have nI : s.heap.objs.size ≠ I := fun e => by
    have kL : (s.heap.push { cls := .type "list", data := .seq ([] : List Value).toArray }).objs.size ≤ I := kL
    rw [Heap.size_push, ← e] at kL
    exact Nat.not_succ_le_self _ kL
  refine wpAny_bind ?_
  show wpAny _ A.in1 (updateSeq s.heap.objs.size (·.push .none) >>= fun _ => updateSeq s.heap.objs.size (·.pop)) _ _ _
  refine wpAny_bind (wpAny_updateSeq hS₁ rfl ?_)
  have hS₂ := Heap.get?_update_self (Obj.mapSeq (·.push Value.none)) hS₁ rfl
  refine wpAny_updateSeq hS₂ rfl ?_
  have hS₃ := Heap.get?_update_self (Obj.mapSeq (·.pop)) hS₂ rfl
  have oth : ∀ b o, b ≠ s.heap.objs.size → h'.get? b = some o →
      ((h'.update s.heap.objs.size (Obj.mapSeq (·.push Value.none))).update s.heap.objs.size (Obj.mapSeq (·.pop))).get? b = some o :=
    fun b o hb e => (Heap.get?_update_other _ _ (Ne.symm hb)).trans ((Heap.get?_update_other _ _ (Ne.symm hb)).trans e)
  have nT : s.heap.objs.size ≠ T := fun e => by
    rcases kTS with z | z
    · rw [z] at e; exact hSI e
    · have z : (s.heap.push { cls := .type "list", data := .seq ([] : List Value).toArray }).objs.size ≤ T := z
      rw [Heap.size_push, ← e] at z
      exact Nat.not_succ_le_self _ z
  have hSf : s.heap.objs.size ∉ [I, S, T] := fun hm => by
    simp only [List.mem_cons, List.not_mem_nil, or_false] at hm
    rcases hm with z | z | z
    · exact nI z
    · exact hSI z
    · exact nT z
  have W1 := (W A.in1 hh).toS
  refine wpAny_pure ⟨plainId_quiet F.plain_extend_loop _, codeAny_extend_loopS W1 (by rw [sizeLine_eq]; unfold scanBound at hz; omega) _ hSf _ es.size 0 _ _ _ rfl (Nat.zero_le _)
    (W1.frame 0 ({ s with heap := h', drawn := d } : Shared) _ s.toks st (Nat.le_refl _) fun b hb o e => oth b o (fun h => hSf (h ▸ hb)) e) hS₃ (ItemsOf.nil _) fun s' acc' c' hm hS' hacc => ?_⟩
  show wpAny _ A (load s.heap.objs.size >>= _) _ _ s'
  refine wpAny_bind (wpAny_load hS' ?_)
  refine wpAny_pure ?_
  obtain ⟨h3, e1, e2, e3, e4⟩ := s'
  obtain rfl : e1 = s.gens := hm.gens
  have e2d : e2 = d := hm.drawn
  subst e2d
  obtain rfl : e4 = s.os := hm.os
  have eo : acc'.toList = out := by
    have lo : out.length = es.size := by rw [hp.length_eq]; simp
    apply List.ext_getElem?
    intro i
    by_cases hi : i < es.size
    · have := hacc.2 i (acc'[i]'(by rw [hacc.1]; exact hi)) (Array.getElem?_eq_getElem _)
      rw [Array.getElem?_toList, this]
      exact Array.getElem?_eq_getElem _
    · rw [List.getElem?_eq_none (by simp [hacc.1]; omega), List.getElem?_eq_none (by omega)]
  rw [eo]
  refine hQ out h3 e3 _ hp (fun b o e => ?_) (Nat.le_of_lt (Heap.lt_size hS'))
  have hb := Heap.lt_size e
  refine hm.heap b o (fun z => ?_) (oth b o (Nat.ne_of_lt hb) (k0 _ _ (Heap.get?_push_of_some _ e)))
  rcases List.mem_cons.mp z with z | z
  · exact Nat.ne_of_lt hb z
  · rw [List.mem_singleton.mp z] at hb
    have kL : (s.heap.push { cls := .type "list", data := .seq ([] : List Value).toArray }).objs.size ≤ I := kL
    rw [Heap.size_push] at kL
    exact Nat.lt_irrefl _ (Nat.lt_trans (Nat.lt_of_succ_le kL) hb)
end
end PySem
set_option Elab.async false
set_option linter.all false
set_option maxRecDepth 100000
set_option maxHeartbeats 1000000
namespace PySem
open PySem.Spec PyProof.Rows
def intOf : Value → Int
  | .int n _ => n
  | _ => 0
theorem ints_map : ∀ vs : List Value, (∀ v ∈ vs, ∃ n t, v = .int n t) → IntsAre vs (vs.map intOf)
  | [], _ => .nil
  | v :: vs, h => by
    obtain ⟨n, t, rfl⟩ := h v List.mem_cons_self
    exact .cons n t (ints_map vs fun u hu => h u (List.mem_cons_of_mem _ hu))
theorem pw_lt : ∀ {l : List Int}, l.Pairwise (· ≤ ·) → l.Nodup → l.Pairwise (· < ·) := fun {l} h1 h2 => by
  have := h1.and (List.nodup_iff_pairwise_ne.mp h2)
  exact this.imp fun {a b} ⟨h, k⟩ => by omega
section
variable {prog : Program} {w : World} {A : Around} {E : Value → Shared → Prop} {s : Shared}
theorem sorted_set {a : Addr} {ns : List Int} {Q : Value → Shared → Prop} (hh : A.handled = none) (x : SetL (w := w) (PySem.intKind prog w) s.heap a (fun k => decide (k ∈ ns)) (metC ns))
    (hQ : ∀ (out : Array Value) (ns' : List Int) (p e : Nat) (h' : Heap) (tk : Nat) (d : Drawn), IntsAre out.toList ns' → ns'.Pairwise (· < ·) → (∀ k, k ∈ ns' ↔ k ∈ ns) → out.size < scanBound → h'.get? p = some (seqObj "list" out e) → (∀ b o, s.heap.get? b = some o → h'.get? b = some o) → s.heap.objs.size ≤ p → Q (.ref p) { s with heap := h', toks := tk, drawn := d }) :
    wpAny (model prog w) A (call (.builtin "sorted") [.ref a]) Q E s := by
  obtain ⟨o, es, ep, t, ho, hex, hd, hel, hm, hb, hf, hn, hl⟩ := x
  have hall : ∀ v ∈ es.toList.map (·.2), ∃ n t, v = Value.int n t := fun v hv => by
    obtain ⟨e, he, rfl⟩ := List.mem_map.mp hv
    obtain ⟨⟨k, hk, _⟩, _⟩ := hel e he
    obtain ⟨t, ht⟩ := Value.isInt_shape hk
    exact ⟨k, t, ht⟩
  have hL : ∀ k, k ∈ (es.toList.map (·.2)).map intOf ↔ k ∈ ns := fun k => by
    rw [← decide_eq_true_iff (p := k ∈ ns), hm k]
    constructor
    · intro z
      obtain ⟨v, hv, rfl⟩ := List.mem_map.mp z
      obtain ⟨e, he, rfl⟩ := List.mem_map.mp hv
      obtain ⟨n, t, ht⟩ := hall _ hv
      refine ⟨e, he, ?_⟩
      rw [ht]; exact intKind_is _ _ _ _
    · rintro ⟨e, he, hk⟩
      obtain ⟨t, ht⟩ := Value.isInt_shape hk
      exact List.mem_map.mpr ⟨e.2, List.mem_map.mpr ⟨e, he, rfl⟩, by rw [ht]; rfl⟩
  have hnd : ((es.toList.map (·.2)).map intOf).Nodup := (metC_nd _).mp (by
    rw [metC_perm (b := ns) hL, ← hn]; simp)
  refine Calls.call_function_entry kind_sorted plain_sorted entry_sorted (args_sorted1 _) ?_
  unfold Builtin.«sorted»
  refine wpAny_bind (m := checkCount "sorted" 1 1 _) (wpAny_pure ?_)
  refine wpAny_bind (collect_set (A := A.in1) hh ⟨⟨o, ho, hex, hd⟩, hf⟩ hl hb fun acc h1 tk d hp k0 kz => ?_)
  have al : acc.length = es.size := by rw [hp.length_eq]; simp
  have hz : acc.length ≤ sizeLine := by rw [al, sizeLine_eq]; unfold scanBound at hb; omega
  refine wpAny_bind (wpAny_newList ?_ hz)
  have hI := ints_map acc fun v hv => hall v (hp.mem_iff.mp hv)
  have hoL : (h1.push { cls := .type "list", data := .seq acc.toArray }).get? h1.objs.size = some (seqObj "list" acc.toArray 0) := Heap.get?_push_size _ rfl
  refine wpAny_bind (wpAny_holding (wpAny_call_entry slot_list_sort ⟨_, hoL, rfl⟩ entry_list_sort (list_sort_treeAny hoL hI hz fun out ns' a1 a2 a3 => ⟨_, rfl, ?_⟩) (args_list_sort _)))
  refine wpAny_pure ⟨_, rfl, ?_⟩
  obtain ⟨e, he⟩ := sortedHeap_at (out := out) hoL
  have hpm : (acc.map intOf).Perm ((es.toList.map (·.2)).map intOf) := hp.map _
  refine hQ out ns' _ e _ tk d a1 (pw_lt a3 ((a2.trans hpm).nodup_iff.mpr hnd)) (fun k => by rw [(a2.trans hpm).mem_iff]; exact hL k) ?_ he (fun b o hb => ?_) kz
  · have h2 := a1.length
    have h3 := a2.length_eq
    rw [List.length_map, al] at h3
    rw [Array.length_toList] at h2
    omega
  · have hb1 := k0 b o hb
    have hlt := Heap.lt_size hb1
    rw [sortedHeap_old (Nat.ne_of_lt hlt) (by show b < (h1.push _).objs.size; rw [Heap.size_push]; exact Nat.lt_succ_of_lt hlt)]
    exact Heap.get?_push_of_some _ hb1
end
end PySem
namespace L2
open PySem PySem.Spec PyProof.Rows
theorem Inv.drawn {X : Cx} {pins : List (Addr × Obj)} {σ : St} {H : Hp} {s : Shared} (I : Inv X pins σ H s) (d : Drawn) : Inv X pins σ H { s with drawn := d } := ⟨I.ok, I.os, I.bare, I.base, I.loc, I.cell, I.free, I.freeC, I.pin, I.hok, I.len⟩
def SX (P : Program) (w : World) (a : Addr) (ns : List Int) : HO := .ext fun h => SetL (w := w) (PySem.intKind P w) h a (fun k => decide (k ∈ ns)) (metC ns)
section
variable {X : Cx}
def rSetX (P : Program) (w : World) (K : PySem.W.Frag) : List V → Hp → VK → Prop := fun vs H Q => ∃ (p : Addr) (ns : List Int), vs = [.ref p] ∧ (SqL K H p (ns.map V.int) ∨ SqT K H p (ns.map V.int)) ∧ metC ns + 1 < 4096 ∧ ∀ a o, H a = none → o = SX P w a ns → Q (.ref a) (upd H a o)
theorem call_setX (hc : X.calm = true) : CallR X (.type "set") (rSetX X.prog X.w X.K) := by
  intro pins s σ H xs us Q I r h
  obtain ⟨p, ns, rfl, hp, hn, q⟩ := h
  rw [Vals.ref1 r]
  have fin : ∀ (h' : Heap) (tk : Nat), SetL (w := X.w) (PySem.intKind X.prog X.w) h' s.heap.objs.size (fun k => decide (k ∈ ns)) (metC ns) → (∀ b o, b < s.heap.objs.size → s.heap.get? b = some o → h'.get? b = some o) → EP X pins σ Q (.ref s.heap.objs.size) { s with heap := h', toks := tk } := fun h' tk x k =>
    ⟨.ref s.heap.objs.size, _, I.laid (t' := tk) (o := SX X.prog X.w s.heap.objs.size ns) (fun b u e => k b u (Heap.lt_size e) e) (Nat.le_refl _) ⟨x, by obtain ⟨o, _, _, _, ho, _⟩ := x; exact ⟨o, ho⟩, fun h1 h2 y e => setL_keep y e⟩, rfl, q _ _ (I.hok.fresh (Nat.le_refl _)) rfl⟩
  rcases hp with hp | hp
  · obtain ⟨its, rv, hl, _⟩ := I.list hp
    have hl := hl.isList
    obtain ⟨ol, e1, e2, e3⟩ := id hl
    have zl : its.length = ns.length := by have := rv.length; simpa using this.symm
    refine call_set_src (knd := PySem.intKind X.prog X.w) (T := "list") (ks := ns) (n := its.toArray.size) (P := fun i v => its.toArray[i]? = some v) e1 e2 F.sub_lst_set F.sub_lst_fro rfl hn (by simp [zl]) (fun i k v h1 h2 => int_met rv i k v h1 (by simpa using h2)) int_hash ?_ (I.ok.hd hc) fin
    intro A s1 E Q2 hA e q2
    subst e
    have hlt := Heap.lt_size e1
    have hl1 : (s.heap.push (set0 X.w)).IsList p its.toArray := hl.push _
    refine wpAny_pyIter_list hl1 ?_
    refine q2 _ _ _ _ _ ((Walks.list (prog := X.prog) (w := X.w) (A := A.in1) (by simp [hA]) (s.heap.push (set0 X.w)).objs.size p (by rw [Heap.size_push]; exact Nat.ne_of_lt (Nat.lt_succ_of_lt hlt)) its.toArray).toS) ⟨⟨_, Heap.get?_push_size _ rfl, rfl, rfl⟩, hl1.push _⟩ ?_ ?_ rfl rfl rfl (Nat.le_refl _) (fun b o e => Heap.get?_push_of_some _ e)
    · rw [Heap.size_push]
      simp
      exact Nat.ne_of_gt hlt
    · rw [Heap.size_push]
      simp
  · obtain ⟨its, rv, hl, _⟩ := I.tuple hp
    have hl : s.heap.IsTuple p its.toArray := hl
    obtain ⟨ol, e1, e2, e3⟩ := id hl
    have zl : its.length = ns.length := by have := rv.length; simpa using this.symm
    refine call_set_src (knd := PySem.intKind X.prog X.w) (T := "tuple") (ks := ns) (n := its.toArray.size) (P := fun i v => its.toArray[i]? = some v) e1 e2 F.sub_tup_set F.sub_tup_fro rfl hn (by simp [zl]) (fun i k v h1 h2 => int_met rv i k v h1 (by simpa using h2)) int_hash ?_ (I.ok.hd hc) fin
    intro A s1 E Q2 hA e q2
    subst e
    have hlt := Heap.lt_size e1
    have hl1 : (s.heap.push (set0 X.w)).IsTuple p its.toArray := hl.push _
    refine wpAny_pyIter_tuple hl1 ?_
    refine q2 _ _ _ _ _ ((Walks.tuple (prog := X.prog) (w := X.w) (A := A.in1) (by simp [hA]) (s.heap.push (set0 X.w)).objs.size p (by rw [Heap.size_push]; exact Nat.ne_of_lt (Nat.lt_succ_of_lt hlt)) its.toArray).toS) ⟨⟨_, Heap.get?_push_size _ rfl, rfl, rfl⟩, hl1.push _⟩ ?_ ?_ rfl rfl rfl (Nat.le_refl _) (fun b o e => Heap.get?_push_of_some _ e)
    · rw [Heap.size_push]
      simp
      exact Nat.ne_of_gt hlt
    · rw [Heap.size_push]
      simp
def rSortX (P : Program) (w : World) : List V → Hp → VK → Prop := fun vs H Q => ∃ (a : Addr) (ns : List Int) (o : HO), vs = [.ref a] ∧ H a = some o ∧ o = SX P w a ns ∧ ∀ (ns' : List Int) (p : Addr), ns'.Pairwise (· < ·) → (∀ k, k ∈ ns' ↔ k ∈ ns) → H p = none → Q (.ref p) (upd H p (.lst (ns'.map V.int)))
theorem cr_sortX (hc : X.calm = true) : CallR X (.builtin "sorted") (rSortX X.prog X.w) := by
  intro pins s σ H vs us Q I r h
  obtain ⟨a, ns, o, rfl, ha, rfl, q⟩ := h
  rw [Vals.ref1 r]
  have x := (I.hok a _ ha).1
  refine sorted_set (I.ok.hd hc) x fun out ns' p e h' tk d h1 h2 h3 h4 hp k kz => ?_
  have hlen : (ns'.map V.int).length ≤ sizeLine := by
    have := h1.length
    rw [Array.length_toList] at this
    rw [List.length_map, ← this, sizeLine_eq]
    unfold scanBound at h4
    omega
  exact ⟨.ref p, upd H p (.lst (ns'.map V.int)), (I.laid (t' := tk) (h' := h') (o := .lst (ns'.map V.int)) k kz ⟨hlen, out.toList, e, vals_of_ints h1, hp⟩).drawn d, rfl, q ns' p h2 h3 (I.hok.fresh kz)⟩
end
end L2
set_option Elab.async false
set_option linter.all false
set_option maxRecDepth 100000
set_option maxHeartbeats 4000000
namespace Hs
open PySem L2
section
variable {P : Program} {w : World} {K : PySem.W.Frag} {mg : Str → Option Value} {base : Heap} {f : Addr} {fd : FuncData} {C : CsA} {S fH : Addr} {tM : Tok}
structure BiW (mg : Str → Option Value) : Prop extends Bi mg where
  sorted_ : mg "sorted" = none
theorem scReach : FnScope ["skin", "half", "reached", "met", "at", "onward", "mates", "other"] ["skin", "half"] (defScope s_reached_from) := ⟨rfl, rfl, rfl, by decide +kernel, rfl, by decide +kernel, by decide +kernel⟩
def spReach : Sp := fun vs H Q _ => ∃ (p : Addr) (on : List Int) (ms : List (Option Int)) (half : Int), vs = [.ref p, .int half] ∧ SkAt H p on ms ∧ InR on.length half ∧
  ∀ (lr : Addr) (xs : List Int) H', Same H H' → H lr = none → H' lr = some (.lst (xs.map V.int)) → xs.Nodup → (∀ x, x ∈ xs ↔ Rch on ms half x) → Q (.ref lr) H'
structure Rchd (on : List Int) (ms : List (Option Int)) (half : Int) (n : Nat) (xs : List Int) : Prop where
  nd : xs.Nodup
  hf : half ∈ xs
  re : ∀ x ∈ xs, Rch on ms half x
  nx : ∀ (j : Nat) x, j < n → xs[j]? = some x → lk on x ∈ xs ∧ ∀ m, lkM ms x = some m → m ∈ xs
theorem Rchd.rng {on : List Int} {ms : List (Option Int)} {half : Int} {n : Nat} {xs : List Int} (S : SkinOk on ms) (g : InR on.length half) (R : Rchd on ms half n xs) : xs.length ≤ on.length := nd_len on.length xs R.nd fun z hz => (R.re z hz).rng S g
theorem Rchd.all {on : List Int} {ms : List (Option Int)} {half : Int} {xs : List Int} (R : Rchd on ms half xs.length xs) (x : Int) : x ∈ xs ↔ Rch on ms half x := by
  refine ⟨R.re x, fun r => ?_⟩
  have cl : ∀ y ∈ xs, lk on y ∈ xs ∧ ∀ m, lkM ms y = some m → m ∈ xs := fun y hy => by
    obtain ⟨j, hj⟩ := List.getElem?_of_mem hy
    exact R.nx j y (List.getElem?_eq_some_iff.mp hj).1 hj
  induction r with
  | self => exact R.hf
  | next _ ih => exact (cl _ ih).1
  | mate _ e ih => exact (cl _ ih).2 _ e
theorem Rchd.more {on : List Int} {ms : List (Option Int)} {half y : Int} {n : Nat} {xs : List Int} (R : Rchd on ms half n xs) (r : Rch on ms half y) (ny : y ∉ xs) (hn : n ≤ xs.length) : Rchd on ms half n (xs ++ [y]) := by
  refine ⟨List.nodup_append.mpr ⟨R.nd, by simp, fun a ha b hb e => ny (by rw [← List.mem_singleton.mp hb, ← e]; exact ha)⟩, List.mem_append_left _ R.hf, fun x hx => ?_, fun j x hj hx => ?_⟩
  · rcases List.mem_append.mp hx with z | z
    · exact R.re x z
    · rw [List.mem_singleton.mp z]; exact r
  · rw [List.getElem?_append_left (by omega)] at hx
    have := R.nx j x hj hx
    exact ⟨List.mem_append_left _ this.1, fun m e => List.mem_append_left _ (this.2 m e)⟩
theorem snoc_set (xs : List Int) (y : Int) : (fun k => decide (k ∈ xs) || decide (k = y)) = fun k => decide (k ∈ xs ++ [y]) := by
  funext k
  rw [Bool.eq_iff_iff]; simp
theorem ok_reached (B : Bi mg) (F : Fun K "reached_from" "reached_from" s_reached_from f fd) : FnOk P w K mg base CX0 1 f fd ["skin", "half"] spReach := by
  refine F.okC scReach (fun vs H Q E h => ?_) (fun cdv A outer s H vs Q E hcd hr h => ?_)
  · obtain ⟨p, on, ms, half, rfl, _⟩ := h; rfl
  obtain ⟨p, on, ms, half, rfl, SA, g, q⟩ := h
  obtain ⟨sk, po, pm, h1, h2, h3⟩ := id SA
  have hle := sk.le
  refine ⟨_, (pss_cons (ps_asg (pv 0) (pg_tup rfl (pgs_cons (pg_name (i := 5) scReach.nd rfl (Or.inl rfl)) (pgs_cons (pg_name (i := 6) scReach.nd rfl (Or.inl rfl)) pgs_nil))))
   (pss_cons (ps_set (i := 2) scReach.nd rfl (Or.inl rfl) (pe_lst (pa_cons (pv 1) pa_nil)))
   (pss_cons (ps_set (i := 3) scReach.nd rfl (Or.inl rfl) (pe_set1 (kds_of_code hcd) rfl rfl (pv 1)))
   (pss_cons (ps_set (i := 4) scReach.nd rfl (Or.inl rfl) pe_int)
   (pss_cons (ps_while PassesOwn.never (pt_cmpR op_lt (pv 4) (pe_callB call_len_seq rfl B.len_ bt_len (pa_cons (pv 2) pa_nil)) (nomark _))
   (pss_cons (ps_for PassesOwn.never rfl (pi_tup (pe_tup (pa_cons (pe_ix ix_tup (pv 5) (pe_ix ix_list (pv 2) (pv 4) (fun _ _ => rfl)) (fun _ _ => rfl)) (pa_cons (pe_ix ix_tup (pv 6) (pe_ix ix_list (pv 2) (pv 4) (fun _ _ => rfl)) (fun _ _ => rfl)) pa_nil)))) (pg_name (i := 7) scReach.nd rfl (Or.inl rfl))
   (pss_one (ps_if (PW.pt (pw_and (pt_cmpR op_notN (pv 7) pe_non (nomark _)) (pw_and1 (pt_cmpR op_notIn_set (pv 7) (pv 3) rfl))))
   (pss_cons (ps_expr (pe_bm PySem.F.plainAttrs_set PySem.F.slot_set_add PySem.F.type_set_add mt_setadd (pv 3) (pa_cons (pv 7) pa_nil)))
   (pss_one (ps_expr (pe_bm PySem.F.plainAttrs_list PySem.F.slot_list_append PySem.F.type_list_append mt_append (pv 2) (pa_cons (pv 7) pa_nil)))))
   pss_nil)))
   (pss_one (ps_aug (i := 4) scReach.nd rfl (Or.inl rfl) pe_int ip_add))))
   (pss_one (ps_ret (pv 2)))))))), ?_⟩
  refine ⟨_, rfl, p, _, rfl, SqT.of h1, rfl, _, _, rfl, _, _, rfl, rfl, ?_⟩
  refine ⟨_, rfl, (by show 1 ≤ sizeLine; decide), fun lr hlr => ?_⟩
  intro lm hlm
  refine ⟨_, rfl, half, rfl, upd_same, ?_⟩
  have nrm : lr ≠ lm := ne_of_none upd_same hlm
  have s0 := same_set ((same_put hlr (.lst [V.int half])).trans (same_put hlm (.set (fun _ => false) 0))) (((same_put hlr (.lst [V.int half]))).free hlm) (o := .set (fun k => decide (k = half)) 1)
  have e0 : upd (upd (upd H lr (.lst [V.int half])) lm (.set (fun _ => false) 0)) lm (.set (fun k => decide (k = half)) 1) lr = some (.lst ([half].map V.int)) := by rw [upd_ne nrm, upd_ne nrm, upd_same]; rfl
  have m0 : upd (upd (upd H lr (.lst [V.int half])) lm (.set (fun _ => false) 0)) lm (.set (fun k => decide (k = half)) 1) lm = some (.set (fun k => decide (k ∈ [half])) [half].length) := by rw [upd_same]; simp
  have flm : H lm = none := (same_put hlr (.lst [V.int half])).free hlm
  generalize upd (upd (upd H lr (.lst [V.int half])) lm (.set (fun _ => false) 0)) lm (.set (fun k => decide (k = half)) 1) = H0 at s0 e0 m0 ⊢
  refine ⟨fun m σ H' => ∃ (xs : List Int) (at_ : Nat) (v7 : Option V), m = on.length - at_ ∧ at_ ≤ xs.length ∧ σ = [some (.ref p), some (.int half), some (.ref lr), some (.ref lm), some (.int (at_ : Nat)), some (.ref po), some (.ref pm), v7] ∧ Same H H' ∧ H' lr = some (.lst (xs.map V.int)) ∧ H' lm = some (.set (fun k => decide (k ∈ xs)) xs.length) ∧ Rchd on ms half at_ xs,
    ⟨_, [half], 0, _, rfl, Nat.zero_le _, rfl, s0, e0, m0, by simp, by simp, fun x hx => by rw [List.mem_singleton.mp hx]; exact .self, fun j x hj => absurd hj (Nat.not_lt_zero _)⟩, ?_⟩
  rintro m σ H' ⟨xs, at_, v7, rfl, hat, rfl, s1, e1, m1, R⟩
  have hxl := R.rng sk g
  refine ⟨_, rfl, _, rfl, lr, _, rfl, .inl (SqL.of e1), _, _, rfl, rfl, _, rfl, ite2 (fun c => ?_) (fun c => ?_)⟩
  · have c : at_ < xs.length := by
      have := of_decide_eq_true c
      rw [List.length_map] at this; omega
    have ex : xs[at_]? = some xs[at_] := List.getElem?_eq_getElem c
    have hx : xs[at_] ∈ xs := List.getElem_mem c
    have rx := R.re _ hx
    have gx := rx.rng sk g
    generalize xs[at_] = x at ex hx rx gx
    have exV : atI (xs.map V.int) (at_ : Nat) = some (.int x) := atI_nat (by rw [List.getElem?_map, ex]; rfl)
    refine ⟨fun σ' H2 => ∃ (ys : List Int) (v7 : Option V), σ' = [some (.ref p), some (.int half), some (.ref lr), some (.ref lm), some (.int ((at_ + 1 : Nat) : Int)), some (.ref po), some (.ref pm), v7] ∧ at_ < ys.length ∧ Same H H2 ∧ H2 lr = some (.lst (ys.map V.int)) ∧ H2 lm = some (.set (fun k => decide (k ∈ ys)) ys.length) ∧ Rchd on ms half (at_ + 1) ys, ?_, ?_⟩
    · rintro σ' H2 ⟨ys, v, rfl, h4, h5, h6, h7, h8⟩
      exact ⟨on.length - (at_ + 1), by omega, ys, at_ + 1, v, rfl, by omega, rfl, h5, h6, h7, h8⟩
    refine ⟨_, rfl, _, rfl, _, rfl, lr, _, _, _, rfl, rfl, SqL.of e1, exV, po, _, _, _, rfl, rfl, SqT.of (s1 _ _ h2), at_lk gx.1 gx.2, ?_⟩
    refine ⟨_, rfl, _, rfl, _, rfl, lr, _, _, _, rfl, rfl, SqL.of e1, exV, pm, _, _, _, rfl, rfl, SqT.of (s1 _ _ h3), at_lkM gx.1 (by rw [sk.len]; exact gx.2), ?_⟩
    refine ⟨(by show 2 ≤ sizeLine; decide), fun tp htp => ?_⟩
    have s2 := s1.trans (same_put htp (.tup [V.int (lk on x), mV (lkM ms x)]))
    have e2 := up htp e1 (o := .tup [V.int (lk on x), mV (lkM ms x)])
    have m2 := up htp m1 (o := .tup [V.int (lk on x), mV (lkM ms x)])
    have t2 := upd_same (H := H') (a := tp) (o := .tup [V.int (lk on x), mV (lkM ms x)])
    have ftp : H tp = none := s1.free htp
    have nlt : lr ≠ tp := ne_of_none e1 htp
    have nmt : lm ≠ tp := ne_of_none m1 htp
    generalize upd H' tp (.tup [V.int (lk on x), mV (lkM ms x)]) = H2 at s2 e2 m2 t2 ⊢
    refine ⟨tp, rfl, ⟨_, SqT.of t2⟩, for_tup (K := K) (a := tp) (xs := [V.int (lk on x), mV (lkM ms x)]) (fun i σ H3 => ∃ (ys : List Int) (v7 : Option V), σ = [some (.ref p), some (.int half), some (.ref lr), some (.ref lm), some (.int (at_ : Nat)), some (.ref po), some (.ref pm), v7] ∧ Same H H3 ∧ H3 tp = some (.tup [V.int (lk on x), mV (lkM ms x)]) ∧ H3 lr = some (.lst (ys.map V.int)) ∧ H3 lm = some (.set (fun k => decide (k ∈ ys)) ys.length) ∧ Rchd on ms half at_ ys ∧ at_ < ys.length ∧ ys[at_]? = some x ∧ (1 ≤ i → lk on x ∈ ys) ∧ (2 ≤ i → ∀ m, lkM ms x = some m → m ∈ ys))
      ⟨xs, _, rfl, s2, t2, e2, m2, R, c, ex, fun z => absurd z (by decide), fun z => absurd z (by decide)⟩ (fun i σ H3 _ ⟨_, _, _, _, z, _⟩ => SqT.of z) ?_ ?_⟩
    · rintro i y σ H3 hy ⟨ys, v7, rfl, s3, t3, e3, m3, R3, l3, x3, d1, d2⟩
      have hi : i < 2 := (List.getElem?_eq_some_iff.mp hy).1
      have hyl := R3.rng sk g
      have put : ∀ (z : Int), Rch on ms half z → z ∉ ys → ∀ (H4 : Hp), H4 = upd (upd H3 lm (.set (fun k => decide (k ∈ ys) || decide (k = z)) (if decide (z ∈ ys) = true then ys.length else ys.length + 1))) lr (.lst (ys.map V.int ++ [V.int z])) →
          Same H H4 ∧ H4 tp = some (.tup [V.int (lk on x), mV (lkM ms x)]) ∧ H4 lr = some (.lst ((ys ++ [z]).map V.int)) ∧ H4 lm = some (.set (fun k => decide (k ∈ ys ++ [z])) (ys ++ [z]).length) ∧ Rchd on ms half at_ (ys ++ [z]) ∧ at_ < (ys ++ [z]).length ∧ (ys ++ [z])[at_]? = some x := fun z rz nz H4 e4 => by
        subst e4
        refine ⟨same_set (same_set s3 flm) hlr, by rw [upd_ne (Ne.symm nlt), upd_ne (Ne.symm nmt)]; exact t3, by rw [upd_same, List.map_append]; rfl, ?_, R3.more rz nz (by omega), by rw [List.length_append]; omega, by rw [List.getElem?_append_left l3]; exact x3⟩
        rw [upd_ne (Ne.symm nrm), upd_same, snoc_set, if_neg (by simpa using nz), List.length_append]; rfl
      match i, hi with
      | 0, _ =>
        obtain rfl : y = V.int (lk on x) := (Option.some.inj hy).symm
        refine ⟨_, rfl, rfl, _, rfl, itP rfl ?_⟩
        refine ⟨_, rfl, _, rfl, lk on x, lm, _, _, rfl, rfl, m3, _, rfl, ?_⟩
        by_cases hin : lk on x ∈ ys
        · refine itN (show (!decide (lk on x ∈ ys)) = false by simp [hin]) ?_
          exact ⟨ys, _, rfl, s3, t3, e3, m3, R3, l3, x3, fun _ => hin, fun z => absurd z (by decide)⟩
        · refine itP (show (!decide (lk on x ∈ ys)) = true by simp [hin]) ?_
          refine ⟨_, rfl, .inr (.inr (.inr (.inr ⟨rfl, _, _, m3⟩))), _, rfl, lm, lk on x, _, _, rfl, rfl, m3, by omega, ?_⟩
          refine ⟨_, rfl, .inl ⟨rfl, _, SqL.of (by rw [upd_ne nrm]; exact e3)⟩, _, rfl, lr, _, _, rfl, rfl, (by rw [upd_ne nrm]; exact e3), by rw [List.length_map, sizeLine_eq]; omega, ?_⟩
          obtain ⟨k1, k2, k3, k4, k5, k6, k7⟩ := put (lk on x) (.next rx) hin _ rfl
          exact ⟨ys ++ [lk on x], _, rfl, k1, k2, k3, k4, k5, k6, k7, fun _ => by simp, fun z => absurd z (by decide)⟩
      | 1, _ =>
        obtain rfl : y = mV (lkM ms x) := (Option.some.inj hy).symm
        cases em : lkM ms x with
        | none =>
          rw [em] at t3
          refine ⟨_, rfl, rfl, _, rfl, itN rfl (itN rfl ?_)⟩
          exact ⟨ys, _, rfl, s3, t3, e3, m3, R3, l3, x3, fun _ => d1 (by decide), fun _ m z => by cases z⟩
        | some mm =>
        rw [em] at put t3
        refine ⟨_, rfl, rfl, _, rfl, itP rfl ?_⟩
        refine ⟨_, rfl, _, rfl, mm, lm, _, _, rfl, rfl, m3, _, rfl, ?_⟩
        by_cases hin : mm ∈ ys
        · refine itN (show (!decide (mm ∈ ys)) = false by simp [hin]) ?_
          exact ⟨ys, _, rfl, s3, t3, e3, m3, R3, l3, x3, fun _ => d1 (by decide), fun _ m z => by cases z; exact hin⟩
        · refine itP (show (!decide (mm ∈ ys)) = true by simp [hin]) ?_
          refine ⟨_, rfl, .inr (.inr (.inr (.inr ⟨rfl, _, _, m3⟩))), _, rfl, lm, mm, _, _, rfl, rfl, m3, by omega, ?_⟩
          refine ⟨_, rfl, .inl ⟨rfl, _, SqL.of (by rw [upd_ne nrm]; exact e3)⟩, _, rfl, lr, _, _, rfl, rfl, (by rw [upd_ne nrm]; exact e3), by rw [List.length_map, sizeLine_eq]; omega, ?_⟩
          obtain ⟨k1, k2, k3, k4, k5, k6, k7⟩ := put mm (.mate rx em) hin _ rfl
          exact ⟨ys ++ [mm], _, rfl, k1, k2, k3, k4, k5, k6, k7, fun _ => List.mem_append_left _ (d1 (by decide)), fun _ m z => by cases z; simp⟩
    · rintro σ H3 ⟨ys, v7, rfl, s3, t3, e3, m3, R3, l3, x3, d1, d2⟩
      refine ⟨_, rfl, _, _, rfl, rfl, ?_⟩
      have R4 : Rchd on ms half (at_ + 1) ys := ⟨R3.nd, R3.hf, R3.re, fun j y hj hy => by
        by_cases ej : j = at_
        · subst ej
          rw [x3] at hy
          cases hy
          exact ⟨d1 (by show 1 ≤ 2; decide), d2 (by show 2 ≤ 2; decide)⟩
        · exact R3.nx j y (by omega) hy⟩
      exact ⟨ys, _, rfl, l3, s3, e3, m3, R4⟩
  · have c : at_ = xs.length := by
      have : ¬ ((at_ : Int) < ((xs.map V.int).length : Int)) := fun z => c (decide_eq_true z)
      rw [List.length_map] at this; omega
    subst c
    exact ⟨_, rfl, q lr xs H' s1 hlr e1 R.nd R.all⟩
theorem scParts : FnScope ["skin"] ["skin"] (defScope s_parts) := ⟨rfl, rfl, rfl, by decide +kernel, rfl, by decide +kernel, by decide +kernel⟩
noncomputable def gPart : List Int → List (Option Int) → Int → List Int := fun on ms h => partL on ms h
theorem le_lt {l : List Int} (h1 : l.Pairwise (· ≤ ·)) (h2 : l.Nodup) : l.Pairwise (· < ·) := (h1.and (List.nodup_iff_pairwise_ne.mp h2)).imp fun {a b} ⟨h, k⟩ => by omega
theorem rch_part {on : List Int} {ms : List (Option Int)} {h : Int} {xs ys : List Int} (S : SkinOk on ms) (g : InR on.length h) (nd : xs.Nodup) (hx : ∀ x, x ∈ xs ↔ Rch on ms h x) (p : ys.Perm xs) (le : ys.Pairwise (· ≤ ·)) : ys = partL on ms h :=
  pw_ext (le_lt le (p.nodup_iff.mpr nd)) (partL_lt h) fun x => by
    rw [p.mem_iff, hx, partL_mem]
    exact ⟨fun r => ⟨r.rng S g, r⟩, fun z => z.2⟩
theorem cells_ofParts {L f : Addr} {cd : Value} : ∀ y ∈ (lamScope s_parts).names, y.2 = .free → ∃ cc, (PyProof.Rows.envOfC "parts" (defScope s_parts) L f cd).cells.lookup y.1 = some cc := fun y hy hf => cell_has (by
  revert y; decide +kernel)
theorem ok_parts {c Tp : Addr} {T : TabL} (hT : tabOf Tp "parts" s_parts ∈ T) (hU : ∀ t ∈ T, t.1 = Tp → t = tabOf Tp "parts" s_parts) (B : Bi mg) (kin : K.In base) (Cd : ∀ h, K.In h → PySem.W.CodeHd h c Tp) (Bm : Bmain mg base) (hSo : mg "sorted" = none) (FO : FnS P w K mg base "each_once" ["halves", "walk_from"] 6 (spOnce P w K mg base 5)) (FH : Fn P w K mg base "all_halves" ["skin"] 1 spHal) (FRe : Fn P w K mg base "reached_from" ["skin", "half"] 1 spReach)
    (F : FunC K "parts" "parts" s_parts f fd c) : FnOk P w K mg base CX0 7 f fd ["skin"] (spAllW T gPart (fun on _ => rngL on.length)) := by
  refine F.ok scParts (fun vs H Q E h => ?_) (fun A outer s H vs Q E hr h => ?_)
  · obtain ⟨p, on, ms, rfl, _⟩ := h; rfl
  obtain ⟨p, on, ms, rfl, S, TS, q⟩ := h
  have sk := S.ok
  have hle := sk.le
  refine ⟨_, (pss_one (ps_ret (pe_once (k := 4) (pn := "half") (fs := ["skin"]) FO hr (by decide) rfl (by intro y hy hf; exact cells_ofParts y hy hf) rfl (Cd _ kin) Bm (fun _ => rfl) ⟨rfl, rfl, rfl, by decide +kernel, rfl, by decide +kernel⟩ (fun _ _ _ => rfl) (pe_callF FH hr (by decide) (pa_cons (pv 0) pa_nil))))), ?_⟩
  refine ⟨_, rfl, p, on, ms, rfl, S, fun lh H1 s1 f1 e1 => ?_⟩
  have LT := (TS.same s1) _ hT
  refine ⟨LT, fun fv c' ctv H2 LT2 CO2 ff2 hf2 k2 => ?_⟩
  obtain ⟨TS2, L2'⟩ := (TS.same s1).lam hU LT2 LT k2
  have e2 := L2' _ _ e1 (fun _ z => nomatch z)
  have S2 := (S.same s1).loose L2'
  refine ⟨lh, fv, c', ctv, rngL on.length, [.ref p], fun h => InR on.length h, partL on ms, rfl, e2, by rw [rngL_len]; exact hle, hf2, CO2, ⟨rfl, fun j y v h1 h2 => ?_⟩, fun A' outer' s' H' h Q' hr' sm hd' q' => ?_, fun h hh => ⟨rngL_mem.mp hh, fun z hz => ?_⟩, fun r H3 s3 f3 R3 => ?_⟩
  · match j, h1, h2 with
    | 0, h1, h2 => cases h1; cases h2; exact ⟨0, rfl, rfl, rfl⟩
  · refine ⟨_, pe_callTy call_tuple_of rfl B.tuple_ bt_tuple (pa_cons (pe_callB cr_sortA rfl hSo bt_sorted (pa_cons (pe_callF FRe hr' (by decide) (pa_cons (pv 1) (pa_cons (pv 0) pa_nil))) pa_nil)) pa_nil), ?_⟩
    refine ⟨_, rfl, _, rfl, p, on, ms, h, rfl, S2.same sm, hd', fun lr xs H3 s3 f3 e3 nd hx => ?_⟩
    refine ⟨lr, xs, rfl, SqL.of e3, fun ys l2 pm le hl2 => ?_⟩
    obtain rfl := rch_part sk hd' nd hx pm le
    refine ⟨l2, _, rfl, .inl ⟨SqL.of upd_same, fun r hr0 => ?_⟩⟩
    have s4 := s3.trans ((same_put hl2 (.lst ((partL on ms h).map V.int))).trans (same_put hr0 (.tup ((partL on ms h).map V.int))))
    exact q' r _ s4 ((s3.trans (same_put hl2 (.lst ((partL on ms h).map V.int)))).free hr0) upd_same
  · have := (partL_mem.mp hz).1
    unfold InR at this ⊢
    omega
  · exact q r H3 (s1.loose.trans (L2'.trans s3.loose)) (TS2.same s3) R3
theorem scLParts : FnScope ["skin", "names", "going", "found", "name", "half", "there"] ["skin"] (defScope s__law_parts) := ⟨rfl, rfl, rfl, by decide +kernel, rfl, by decide +kernel, by decide +kernel⟩
def EqN (on : List Int) (ms : List (Option Int)) (ns : List Int) (h : Int) : Prop := lk ns (lk on h) = lk ns h ∧ ∀ m, lkM ms h = some m → lk ns m = lk ns h
def spLParts : Sp := fun vs H Q _ => ∃ (p : Addr) (on : List Int) (ms : List (Option Int)), vs = [.ref p] ∧ SkAt H p on ms ∧ ∀ r H', Same H H' → Rows H' r (partsL on ms) → Q (.ref r) H'
theorem ok_lparts (B : Bi mg) (hSo : mg "sorted" = none) (F : Fun K "_law_parts" "_law_parts" s__law_parts f fd) : FnOk P w K mg base CX0 1 f fd ["skin"] spLParts := by
  refine F.ok scLParts (fun vs H Q E h => ?_) (fun cdv A outer s H vs Q E hr h => ?_)
  · obtain ⟨p, on, ms, rfl, _⟩ := h; rfl
  obtain ⟨p, on, ms, rfl, SA, q⟩ := h
  obtain ⟨sk, po, pm, h1, h2, h3⟩ := id SA
  have hle := sk.le
  have hml := sk.len
  have hol : (on.map V.int).length = on.length := List.length_map _
  refine ⟨_, (pss_cons (ps_set (i := 1) scLParts.nd rfl (Or.inr rfl) (pe_callTy (call_list_rng rfl) rfl B.list_ bt_list (pa_cons (pe_callTy call_range1 rfl B.range_ bt_range (pa_cons (pe_callB call_len_seq rfl B.len_ bt_len (pa_cons (pe_ix ix_tup (pv 0) pe_int (fun _ _ => rfl)) pa_nil)) pa_nil)) pa_nil)))
   (pss_cons (ps_set (i := 2) scLParts.nd rfl (Or.inl rfl) pe_bl)
   (pss_cons (ps_while PassesOwn.never (pt_val (pv 2))
   (pss_cons (ps_set (i := 2) scLParts.nd rfl (Or.inl rfl) pe_bl)
   (pss_one (ps_for PassesOwn.never rfl (pi_range1 rfl B.range_ (pa_cons (pe_callB call_len_seq rfl B.len_ bt_len (pa_cons (pv 1) pa_nil)) pa_nil)) (pg_name (i := 5) scLParts.nd rfl (Or.inl rfl))
   (pss_one (ps_for PassesOwn.never rfl (pi_tup (pe_tup (pa_cons (pe_ix ix_tup (pe_ix ix_tup (pv 0) pe_int (fun _ _ => rfl)) (pv 5) (fun _ _ => rfl)) (pa_cons (pe_ix ix_tup (pe_ix ix_tup (pv 0) pe_int (fun _ _ => rfl)) (pv 5) (fun _ _ => rfl)) pa_nil)))) (pg_name (i := 6) scLParts.nd rfl (Or.inl rfl))
   (pss_one (ps_if (PW.pt (pw_and (pt_cmpR op_notN (pv 6) pe_non (nomark _)) (pw_and1 (pt_cmpR op_ne (pe_ix ix_list (pv 1) (pv 6) (fun _ _ => rfl)) (pe_ix ix_list (pv 1) (pv 5) (fun _ _ => rfl)) (nomark _)))))
   (pss_cons (ps_asg (pe_callB (call_min2 rfl) rfl B.min_ bt_min (pa_cons (pe_ix ix_list (pv 1) (pv 6) (fun _ _ => rfl)) (pa_cons (pe_ix ix_list (pv 1) (pv 5) (fun _ _ => rfl)) pa_nil))) (pg_sub (pv 1) (pv 6) set_list))
   (pss_cons (ps_asg (pe_ix ix_list (pv 1) (pv 6) (fun _ _ => rfl)) (pg_sub (pv 1) (pv 5) set_list))
   (pss_one (ps_set (i := 2) scLParts.nd rfl (Or.inl rfl) pe_bl))))
   pss_nil))))))))
   (pss_cons (ps_set (i := 3) scLParts.nd rfl (Or.inl rfl) (pe_lst pa_nil))
   (pss_cons (ps_for PassesOwn.never rfl (pi_list (pe_callB (cr_sortX rfl) rfl hSo bt_sorted (pa_cons (pe_callTy (call_setX rfl) rfl B.set_ bt_set (pa_cons (pv 1) pa_nil)) pa_nil))) (pg_name (i := 4) scLParts.nd rfl (Or.inr rfl))
   (pss_one (ps_expr (pe_bm PySem.F.plainAttrs_list PySem.F.slot_list_append PySem.F.type_list_append mt_append (pv 3) (pa_cons (pe_callTy call_tuple_of rfl B.tuple_ bt_tuple (pa_cons (pe_lc (own := [("half", 5)]) (g := gName 5) rfl scLParts.nd (pi_range1 rfl B.range_ (pa_cons (pe_callB call_len_seq rfl B.len_ bt_len (pa_cons (pv 1) pa_nil)) pa_nil)) (blkOk_by (own := [("half", 5)]) (N := ["skin", "names", "going", "found", "name", "half", "there"]) (sc := (defScope s__law_parts)) (by decide +kernel)) (fun _ _ _ _ _ => (pg_name (i := 5) scLParts.nd rfl (Or.inl rfl))) (fun _ _ _ _ _ => (pts_one (pt_cmpR op_eq (pe_ix (ix_listK (K := K) rfl) (pv 1) (pv 5) (fun _ _ => rfl)) (pv 4) (nomark _)))) (fun _ _ _ _ _ => (pv 5))) pa_nil)) pa_nil)))))
   (pss_one (ps_ret (pe_callTy call_tuple_of rfl B.tuple_ bt_tuple (pa_cons (pv 3) pa_nil))))))))), ?_⟩
  refine ⟨_, rfl, p, _, _, .ref po, rfl, rfl, SqT.of h1, at0 _ _, po, _, rfl, .inr (SqT.of h2), ?_⟩
  rw [hol]
  refine ⟨_, rfl, fun pr hpr => ⟨pr, _, _, rfl, upd_same, by omega, by omega, by omega, by omega, ?_, fun ln hln => ?_⟩⟩
  · rw [sizeLine_eq]; omega
  rw [show ((on.length : Int) - 0).toNat = on.length by omega, ints_to]
  have sl := (same_put hpr (.rng 0 (on.length : Int))).trans (same_put hln (.lst (((List.range on.length).map fun i : Nat => (i : Int)).map V.int)))
  have fln : H ln = none := (same_put hpr (.rng 0 (on.length : Int))).free hln
  have gl := upd_same (H := upd H pr (.rng 0 (on.length : Int))) (a := ln) (o := .lst (((List.range on.length).map fun i : Nat => (i : Int)).map V.int))
  generalize upd (upd H pr (.rng 0 (on.length : Int))) ln (.lst (((List.range on.length).map fun i : Nat => (i : Int)).map V.int)) = H0 at sl gl ⊢
  replace gl : H0 ln = some (.lst ((rngL on.length).map V.int)) := gl
  refine ⟨fun m σ H' => ∃ (ns : List Int) (go : Bool) (v_half v_there : Option V), σ = [some (.ref p), some (.ref ln), some (.bl go), none, none, v_half, v_there] ∧ m = (if go = true then sumN ns + 1 else 0) ∧ Same H H' ∧ H' ln = some (.lst (ns.map V.int)) ∧ Nm on ms ns ∧ (go = false → ∀ h, InR on.length h → EqN on ms ns h),
    ⟨_, rngL on.length, true, _, _, rfl, rfl, sl, gl, Nm.start sk, nofun⟩, ?_⟩
  rintro m σ H' ⟨ns, go, v_half, v_there, rfl, rfl, s1, g1, N1, e1⟩
  refine ⟨_, rfl, _, rfl, ?_⟩
  cases go with
  | true =>
    refine itP rfl ?_
    refine ⟨fun σ' H2 => ∃ (ns2 : List Int) (go2 : Bool) (v_half v_there : Option V), σ' = [some (.ref p), some (.ref ln), some (.bl go2), none, none, v_half, v_there] ∧ Same H H2 ∧ H2 ln = some (.lst (ns2.map V.int)) ∧ Nm on ms ns2 ∧ ((go2 = false ∧ ns2 = ns ∧ ∀ h, InR on.length h → EqN on ms ns h) ∨ (go2 = true ∧ sumN ns2 < sumN ns)), ?_, ?_⟩
    · rintro σ' H2 ⟨ns2, go2, v_half, v_there, rfl, a1, a2, a3, a4⟩
      rcases a4 with ⟨rfl, rfl, a5⟩ | ⟨rfl, a5⟩
      · exact ⟨0, by rw [if_pos rfl]; omega, _, false, _, _, rfl, rfl, a1, a2, a3, fun _ => a5⟩
      · exact ⟨sumN ns2 + 1, by rw [if_pos rfl]; omega, _, true, _, _, rfl, rfl, a1, a2, a3, nofun⟩
    have hnl : (ns.map V.int).length = on.length := by rw [List.length_map, N1.len]
    refine ⟨_, rfl, ln, _, rfl, .inl (SqL.of g1), ?_⟩
    rw [hnl]
    refine ⟨_, rfl, by omega, by omega, for_range (lo := 0)
      (fun i σ H2 => ∃ (ns2 : List Int) (go2 : Bool) (v_half v_there : Option V), σ = [some (.ref p), some (.ref ln), some (.bl go2), none, none, v_half, v_there] ∧ Same H H2 ∧ H2 ln = some (.lst (ns2.map V.int)) ∧ Nm on ms ns2 ∧ ((go2 = false ∧ ns2 = ns ∧ ∀ h, InR on.length h → h < (i : Int) → EqN on ms ns h) ∨ (go2 = true ∧ sumN ns2 < sumN ns)))
      ⟨ns, false, v_half, v_there, rfl, s1, g1, N1, .inl ⟨rfl, rfl, fun h g z => by unfold InR at g; omega⟩⟩ ?_ ?_⟩
    · rintro i σ H2 hi ⟨ns2, go2, v_half, v_there, rfl, s2, g2, N2, c2⟩
      rw [Int.zero_add]
      have gi : InR on.length (i : Int) := by unfold InR; omega
      refine ⟨_, rfl, p, _, _, .ref po, rfl, rfl, SqT.of (s2 _ _ h1), at0 _ _, _, rfl, po, _, _, _, rfl, rfl, SqT.of (s2 _ _ h2), at_lk gi.1 gi.2, ?_⟩
      refine ⟨_, rfl, p, _, _, .ref pm, rfl, rfl, SqT.of (s2 _ _ h1), at1 _ _ _, _, rfl, pm, _, _, _, rfl, rfl, SqT.of (s2 _ _ h3), at_lkM gi.1 (by rw [hml]; exact gi.2), (by show 2 ≤ sizeLine; decide), fun tp htp => ?_⟩
      have ftp : H tp = none := s2.free htp
      have nlt : ln ≠ tp := ne_of_none g2 htp
      refine ⟨tp, rfl, ⟨_, SqT.of upd_same⟩, for_tup (K := K) (a := tp) (xs := [V.int (lk on (i : Int)), mV (lkM ms (i : Int))])
        (fun j σ H3 => ∃ (ns3 : List Int) (go3 : Bool) (v_there : Option V), σ = [some (.ref p), some (.ref ln), some (.bl go3), none, none, some (.int (i : Int)), v_there] ∧ Same H H3 ∧ H3 ln = some (.lst (ns3.map V.int)) ∧ H3 tp = some (.tup [V.int (lk on (i : Int)), mV (lkM ms (i : Int))]) ∧ Nm on ms ns3 ∧
          ((go3 = false ∧ ns3 = ns ∧ (∀ h, InR on.length h → h < (i : Int) → EqN on ms ns h) ∧ (1 ≤ j → lk ns (lk on (i : Int)) = lk ns (i : Int)) ∧ (2 ≤ j → ∀ m, lkM ms (i : Int) = some m → lk ns m = lk ns (i : Int))) ∨ (go3 = true ∧ sumN ns3 < sumN ns)))
        ⟨ns2, go2, v_there, rfl, s2.trans (same_put htp _), up htp g2, upd_same, N2, c2.imp (fun ⟨a, b, c⟩ => ⟨a, b, c, fun z => absurd z (by decide), fun z => absurd z (by decide)⟩) id⟩ (fun j σ H3 _ ⟨_, _, _, _, _, _, z, _⟩ => SqT.of z) ?_ ?_⟩
      · rintro j x σ H3 hx ⟨ns3, go3, v_there, rfl, s3, g3, t3, N3, c3⟩
        have cls : (x = V.non ∧ ∀ ns : List Int, (1 ≤ j → lk ns (lk on (i : Int)) = lk ns (i : Int)) → (1 ≤ j + 1 → lk ns (lk on (i : Int)) = lk ns (i : Int)) ∧ (2 ≤ j + 1 → ∀ m, lkM ms (i : Int) = some m → lk ns m = lk ns (i : Int))) ∨
            ∃ t, x = V.int t ∧ Rch on ms (i : Int) t ∧ ∀ ns : List Int, (1 ≤ j → lk ns (lk on (i : Int)) = lk ns (i : Int)) → lk ns t = lk ns (i : Int) → (1 ≤ j + 1 → lk ns (lk on (i : Int)) = lk ns (i : Int)) ∧ (2 ≤ j + 1 → ∀ m, lkM ms (i : Int) = some m → lk ns m = lk ns (i : Int)) := by
          match j, hx with
          | 0, hx => exact .inr ⟨lk on (i : Int), (Option.some.inj hx).symm, .next .self, fun ns _ e => ⟨fun _ => e, fun z => absurd z (by decide)⟩⟩
          | 1, hx =>
            have hx := (Option.some.inj hx).symm
            cases em : lkM ms (i : Int) with
            | none =>
              rw [em] at hx
              exact .inl ⟨hx, fun ns d => ⟨fun _ => d (Nat.le_refl 1), fun _ m z => (by cases z)⟩⟩
            | some m =>
              rw [em] at hx
              exact .inr ⟨m, hx, .mate .self em, fun ns d e => ⟨fun _ => d (Nat.le_refl 1), fun _ m' z => (by cases z; exact e)⟩⟩
        rcases cls with ⟨rfl, fin⟩ | ⟨t, rfl, rt, fin⟩
        · refine ⟨_, rfl, rfl, _, rfl, itN rfl (itN rfl ?_)⟩
          exact ⟨ns3, go3, _, rfl, s3, g3, t3, N3, c3.imp (fun ⟨a, b, c, d, e⟩ => ⟨a, b, c, (fin ns d).1, (fin ns d).2⟩) id⟩
        · have gt := rt.rng sk gi
          refine ⟨_, rfl, rfl, _, rfl, itP rfl ?_⟩
          refine ⟨_, rfl, _, rfl, ln, _, _, _, rfl, rfl, SqL.of g3, at_lk gt.1 (by rw [N3.len]; exact gt.2), _, rfl, _, rfl, ln, _, _, _, rfl, rfl, SqL.of g3, at_lk gi.1 (by rw [N3.len]; exact gi.2), rfl, _, rfl, ?_⟩
          by_cases e : lk ns3 t = lk ns3 (i : Int)
          · refine itN (by simp [e]) ?_
            refine ⟨ns3, go3, _, rfl, s3, g3, t3, N3, ?_⟩
            rcases c3 with ⟨a, b, c, d, e'⟩ | ⟨a, b⟩
            · subst b; exact .inl ⟨a, rfl, c, (fin _ d e).1, (fin _ d e).2⟩
            · exact .inr ⟨a, b⟩
          · refine itP (by simp [e]) ?_
            refine ⟨_, rfl, _, rfl, ln, _, _, _, rfl, rfl, SqL.of g3, at_lk gt.1 (by rw [N3.len]; exact gt.2), _, rfl, _, rfl, ln, _, _, _, rfl, rfl, SqL.of g3, at_lk gi.1 (by rw [N3.len]; exact gi.2), _, _, rfl, _, rfl, _, rfl, ln, _, _, t.toNat, rfl, rfl, g3, ix_nat gt.1 (by rw [List.length_map, N3.len]; exact gt.2), ?_⟩
            rw [set_int]
            obtain ⟨N4, sm⟩ := N3.turn sk gi rt e rfl
            generalize (if lk ns3 (i : Int) < lk ns3 t then lk ns3 (i : Int) else lk ns3 t) = v at N4 sm ⊢
            have ev : lk (ns3.set t.toNat v) t = v := by rw [lk_setI (by rw [N3.len]; exact gt) gt.1, if_pos rfl]
            refine ⟨_, rfl, _, rfl, ln, _, _, _, rfl, rfl, SqL.of upd_same, at_lk gt.1 (by rw [List.length_set, N3.len]; exact gt.2), _, rfl, _, rfl, ln, _, _, (i : Int).toNat, rfl, rfl, upd_same, ix_nat gi.1 (by rw [List.length_map, List.length_set, N3.len]; exact gi.2), ?_⟩
            rw [ev, set_int]
            refine ⟨_, true, _, rfl, same_set (same_set s3 fln) fln, upd_same, by rw [upd_ne nlt.symm, upd_ne nlt.symm]; exact t3, N4, .inr ⟨rfl, ?_⟩⟩
            rcases c3 with ⟨_, b, _⟩ | ⟨_, b⟩
            · rw [← b]; exact sm
            · omega
      · rintro σ H3 ⟨ns3, go3, v_there, rfl, s3, g3, t3, N3, c3⟩
        refine ⟨ns3, go3, _, _, rfl, s3, g3, N3, c3.imp (fun ⟨a, b, c, d, e⟩ => ⟨a, b, fun h gh z => ?_⟩) id⟩
        by_cases eh : h = (i : Int)
        · subst eh; exact ⟨d (by show 1 ≤ 2; decide), e (by show 2 ≤ 2; decide)⟩
        · exact c h gh (by omega)
    · rintro σ H2 ⟨ns2, go2, v_half, v_there, rfl, s2, g2, N2, c2⟩
      exact ⟨ns2, go2, v_half, v_there, rfl, s2, g2, N2, c2.imp (fun ⟨a, b, c⟩ => ⟨a, b, fun h gh => c h gh (by unfold InR at gh; omega)⟩) id⟩
  | false =>
    refine itN rfl ?_
    have e1 := e1 rfl
    have hnl : (ns.map V.int).length = on.length := by rw [List.length_map, N1.len]
    have nm : ∀ h, InR on.length h → lk ns h = repP on ms h := fun h g => N1.last sk e1 g
    refine ⟨(by show 0 ≤ sizeLine; decide), fun lf hlf => ?_⟩
    have s2 := s1.trans (same_put hlf (.lst []))
    have g2 := up hlf g1 (o := .lst [])
    have f2 := upd_same (H := H') (a := lf) (o := .lst [])
    have flf : H lf = none := s1.free hlf
    have nfn : lf ≠ ln := (ne_of_none g1 hlf).symm
    generalize upd H' lf (.lst []) = H2 at s2 g2 f2 ⊢
    refine ⟨_, rfl, ln, ns, rfl, .inl (SqL.of g2), by have := PySem.metC_le ns; rw [N1.len] at this; omega, fun sa so hsa eso => ⟨sa, ns, so, rfl, upd_same, eso, fun L lL pw hL hlL => ?_⟩⟩
    have s3 := (s2.trans (same_put hsa so)).trans (same_put hlL (.lst (L.map V.int)))
    have g3 := up hlL (up hsa g2 (o := so)) (o := .lst (L.map V.int))
    have f3 := up hlL (up hsa f2 (o := so)) (o := .lst (L.map V.int))
    have l3 := upd_same (H := upd H2 sa so) (a := lL) (o := .lst (L.map V.int))
    have nLf : lf ≠ lL := ne_of_none (up hsa f2 (o := so)) hlL
    have eP := sk.parts_names N1.len nm pw hL
    have hLl : L.length ≤ on.length := by
      rw [← N1.len]
      exact nd_sub (pw.imp (fun h => by omega)) fun x hx => (hL x).mp hx
    generalize upd (upd H2 sa so) lL (.lst (L.map V.int)) = H3 at s3 g3 f3 l3 ⊢
    refine ⟨lL, rfl, ⟨_, SqL.of l3⟩, for_list (K := K) (a := lL) (xs := L.map V.int)
      (fun j σ H4 => ∃ (rs : List Addr) (v_half v_there v_name : Option V), σ = [some (.ref p), some (.ref ln), some (.bl false), some (.ref lf), v_name, v_half, v_there] ∧ Same H H4 ∧ H4 ln = some (.lst (ns.map V.int)) ∧ H4 lL = some (.lst (L.map V.int)) ∧ H4 lf = some (.lst (rs.map V.ref)) ∧ rs.length = j ∧ ∀ (n : Nat) a k, rs[n]? = some a → L[n]? = some k → H4 a = some (.tup (((rngL on.length).filter fun h => decide (lk ns h = k)).map V.int)))
      ⟨[], _, _, _, rfl, s3, g3, l3, f3, rfl, fun n a k z => by simp at z⟩ (fun j σ H4 _ ⟨_, _, _, _, _, _, _, z, _⟩ => SqL.of z) ?_ ?_⟩
    · rintro j x σ H4 hx ⟨rs, v_half, v_there, v_name, rfl, s4, g4, l4, f4, r4, a4⟩
      rw [List.getElem?_map] at hx
      obtain ⟨k, hk, rfl⟩ := Option.map_eq_some_iff.mp hx
      have hjL := (List.getElem?_eq_some_iff.mp hk).1
      refine ⟨_, rfl, .inl ⟨rfl, _, SqL.of f4⟩, _, rfl, ln, _, rfl, .inl (SqL.of g4), ?_⟩
      rw [hnl]
      refine ⟨_, rfl, by omega, by omega, fun D hD => ?_⟩
      have nDn : ln ≠ D := ne_of_none g4 hD
      refine lc_range (Pv := fun i H5 => Same H4 H5 ∧ H5 D = some (.lst (((rngL i).filter fun h => decide (lk ns h = k)).map V.int))) ⟨same_put hD _, upd_same⟩ (fun i H5 hi pv => ?_) (fun H5 pv => ?_)
      · obtain ⟨s5, d5⟩ := pv
        have gi : InR on.length (i : Int) := by unfold InR; omega
        rw [Int.zero_add]
        refine ⟨rfl, _, rfl, _, rfl, ln, _, _, _, rfl, rfl, SqL.of (s5 _ _ g4), at_lk gi.1 (by rw [N1.len]; exact gi.2), _, rfl, rfl, _, rfl, ?_⟩
        have hf := List.length_filter_le (fun h => decide (lk ns h = k)) (rngL i)
        rw [rngL_len] at hf
        have sp : ((rngL (i + 1)).filter fun h => decide (lk ns h = k)) = ((rngL i).filter fun h => decide (lk ns h = k)) ++ (if lk ns (i : Int) = k then [(i : Int)] else []) := by
          rw [rngL_snoc, List.filter_append]
          by_cases h : lk ns (i : Int) = k <;> simp [h]
        by_cases e : lk ns (i : Int) = k
        · refine itP (by simp [e]) ⟨_, rfl, _, d5, by rw [List.length_map, sizeLine_eq]; omega, same_set s5 hD, ?_⟩
          rw [upd_same, sp, if_pos e, List.map_append]; rfl
        · refine itN (by simp [e]) ⟨s5, ?_⟩
          rw [d5, sp, if_neg e, List.append_nil]
      obtain ⟨s5, d5⟩ := pv
      rw [show ((on.length : Int)).toNat = on.length by omega] at d5
      refine ⟨D, _, rfl, .inl ⟨SqL.of d5, fun r hr0 => ?_⟩⟩
      have f5 := s5 _ _ f4
      refine ⟨lf, _, _, rfl, rfl, up hr0 f5, by rw [List.length_map, r4, sizeLine_eq]; omega, ?_⟩
      have nlr : lf ≠ r := ne_of_none f5 hr0
      refine ⟨rs ++ [r], _, _, _, rfl, same_set ((s4.trans s5).trans (same_put hr0 _)) flf, by rw [upd_ne nfn.symm]; exact up hr0 (s5 _ _ g4), ?_, by rw [upd_same, List.map_append]; rfl, by simp [r4], fun n a k' z1 z2 => ?_⟩
      · rw [upd_ne nLf.symm]; exact up hr0 (s5 _ _ l4)
      · by_cases hn : n < rs.length
        · rw [List.getElem?_append_left hn] at z1
          have old := s5 _ _ (a4 n a k' z1 z2)
          rw [upd_ne (fun z => by rw [z, f5] at old; cases old)]
          exact up hr0 old
        · have hnj : n = j := by
            have := (List.getElem?_eq_some_iff.mp z1).1
            simp at this; omega
          subst hnj
          rw [List.getElem?_append_right (by omega), r4, Nat.sub_self] at z1
          obtain rfl : r = a := by simpa using z1
          rw [hk] at z2
          cases z2
          rw [upd_ne nlr.symm, upd_same]
    · rintro σ H4 ⟨rs, v_half, v_there, v_name, rfl, s4, g4, l4, f4, r4, a4⟩
      refine ⟨_, rfl, lf, _, rfl, .inl ⟨SqL.of f4, fun r hr0 => ?_⟩⟩
      rw [List.length_map] at r4
      refine q r _ (s4.trans (same_put hr0 _)) ⟨rs, upd_same, by rw [eP, List.length_map, r4], fun n a row z1 z2 => ?_⟩
      rw [eP, List.getElem?_map] at z2
      obtain ⟨k, hk, rfl⟩ := Option.map_eq_some_iff.mp z2
      exact up hr0 (a4 n a k z1 hk)
end
end Hs
set_option linter.all false
set_option maxRecDepth 100000
set_option maxHeartbeats 1000000
namespace Hs
def besOn (on on2 : List Int) : List Int := on ++ on2.map (· + (on.length : Int))
def besMs (n : Nat) (ms ms2 : List (Option Int)) : List (Option Int) := ms ++ ms2.map (Option.map (· + (n : Int)))
theorem bes_ok {on on2 : List Int} {ms ms2 : List (Option Int)} (S : SkinOk on ms) (T : SkinOk on2 ms2) (h : on.length + on2.length ≤ 400) : SkinOk (besOn on on2) (besMs on.length ms ms2) := by
  have l1 : (besOn on on2).length = on.length + on2.length := by unfold besOn; simp
  refine ⟨by rw [l1]; have := S.pos; omega, by rw [l1]; exact h, by rw [l1]; unfold besMs; simp [S.len, T.len], fun x hx => ?_, ?_, fun y h0 hy => ?_, fun a m e => ?_⟩
  · rw [l1]
    rcases List.mem_append.mp hx with z | z
    · have := S.rng x z; omega
    · obtain ⟨y, hy, rfl⟩ := List.mem_map.mp z
      have := T.rng y hy
      show 0 ≤ y + (on.length : Int) ∧ y + (on.length : Int) < _
      omega
  · unfold besOn
    refine List.nodup_append.mpr ⟨S.nd, ?_, fun a ha b hb e => ?_⟩
    · rw [List.nodup_iff_pairwise_ne, List.pairwise_map]
      exact (List.nodup_iff_pairwise_ne.mp T.nd).imp fun {a b} n e => n (by omega)
    · obtain ⟨y, hy, rfl⟩ := List.mem_map.mp hb
      have h1 := S.rng a ha
      have h2 := T.rng y hy
      have e : a = y + (on.length : Int) := e
      omega
  · rw [l1] at hy
    unfold besOn
    by_cases c : y < on.length
    · exact List.mem_append_left _ (S.sur y h0 c)
    · refine List.mem_append_right _ (List.mem_map.mpr ⟨y - on.length, T.sur _ (by omega) (by omega), ?_⟩)
      show y - (on.length : Int) + (on.length : Int) = y
      omega
  · rw [l1]
    unfold besMs at e ⊢
    have sl := S.len
    have tl := T.len
    by_cases c : a < ms.length
    · rw [List.getElem?_append_left c] at e
      obtain ⟨a1, a2, a3, a4⟩ := S.ok a m e
      refine ⟨a1, by omega, a3, ?_⟩
      rw [List.getElem?_append_left (by omega)]; exact a4
    · rw [List.getElem?_append_right (by omega), List.getElem?_map] at e
      cases e2 : ms2[a - ms.length]? with
      | none => rw [e2] at e; cases e
      | some o =>
        rw [e2] at e
        cases o with
        | none => cases e
        | some m2 =>
          have e : some (m2 + (on.length : Int)) = some m := Option.some.inj e
          have e := Option.some.inj e
          obtain ⟨a1, a2, a3, a4⟩ := T.ok _ m2 e2
          refine ⟨by omega, by omega, by omega, ?_⟩
          rw [List.getElem?_append_right (by omega), List.getElem?_map, show m.toNat - ms.length = m2.toNat by omega, a4]
          show some (some (((a - ms.length : Nat) : Int) + (on.length : Int))) = _
          exact congrArg (fun z => some (some z)) (by omega)
end Hs
set_option Elab.async false
set_option linter.all false
set_option maxRecDepth 100000
set_option maxHeartbeats 4000000
namespace Hs
open PySem L2
section
variable {P : Program} {w : World} {K : PySem.W.Frag} {mg : Str → Option Value} {base : Heap} {f : Addr} {fd : FuncData} {C : CsA} {S fH : Addr} {tM : Tok}
theorem SkAt.but {H H' : Hp} {p b : Addr} {on : List Int} {ms : List (Option Int)} {xs : List V} (S : SkAt H p on ms) (h : H b = some (.lst xs)) (o : But b H H') : SkAt H' p on ms := by
  obtain ⟨k, po, pm, h1, h2, h3⟩ := S
  have n : ∀ a ys, H a = some (.tup ys) → a ≠ b := fun a ys z e => by rw [e, h] at z; cases z
  exact ⟨k, po, pm, o _ _ (n _ _ h1) h1, o _ _ (n _ _ h2) h2, o _ _ (n _ _ h3) h3⟩
theorem Tabs.but {T : TabL} {H H' : Hp} {l : Addr} {xs : List V} (h : Tabs T H) (hl : H l = some (.lst xs)) (B : But l H H') : Tabs T H' := fun t m => by
  obtain ⟨ps, h1, h2, h3⟩ := h t m
  refine ⟨ps, B _ _ (fun z => by rw [z, hl] at h1; cases h1) h1, h2, ?_⟩
  rcases h3 with h3 | ⟨c, h3, oc, vs, q, k1, k2, k3⟩
  · exact .inl h3
  · exact .inr ⟨c, h3, oc, vs, q, B _ _ (fun z => by rw [z, hl] at k1; cases k1) k1, k2, k3⟩
theorem scBeside : FnScope ["one", "other", "many", "onward", "mates", "mate", "half"] ["one", "other"] (defScope s__law_beside) := ⟨rfl, rfl, rfl, by decide +kernel, rfl, by decide +kernel, by decide +kernel⟩
def spBeside : Sp := fun vs H Q _ => ∃ (p p2 : Addr) (on on2 : List Int) (ms ms2 : List (Option Int)), vs = [.ref p, .ref p2] ∧ SkAt H p on ms ∧ SkAt H p2 on2 ms2 ∧ on.length + on2.length ≤ 400 ∧ ∀ r H', Same H H' → SkAt H' r (besOn on on2) (besMs on.length ms ms2) → Q (.ref r) H'
theorem ok_beside (B : Bi mg) (F : Fun K "_law_beside" "_law_beside" s__law_beside f fd) : FnOk P w K mg base CX0 1 f fd ["one", "other"] spBeside := by
  refine F.ok scBeside (fun vs H Q E h => ?_) (fun cdv A outer s H vs Q E hr h => ?_)
  · obtain ⟨p, p2, on, on2, ms, ms2, rfl, _⟩ := h; rfl
  obtain ⟨p, p2, on, on2, ms, ms2, rfl, SA, SB, hle, q⟩ := h
  obtain ⟨sk, po, pm, h1, h2, h3⟩ := id SA
  obtain ⟨sk2, po2, pm2, j1, j2, j3⟩ := id SB
  have hol : (on.map V.int).length = on.length := List.length_map _
  have hml := sk.len
  have hml2 := sk2.len
  refine ⟨_, (pss_cons (ps_set (i := 2) scBeside.nd rfl (Or.inr rfl) (pe_callB call_len_seq rfl B.len_ bt_len (pa_cons (pe_ix ix_tup (pv 0) pe_int (fun _ _ => rfl)) pa_nil)))
   (pss_cons (ps_set (i := 3) scBeside.nd rfl (Or.inl rfl) (pe_op op_catT (pe_ix ix_tup (pv 0) pe_int (fun _ _ => rfl)) (pe_callTy call_tuple_of rfl B.tuple_ bt_tuple (pa_cons (pe_lc (own := [("half", 6)]) (g := gName 6) rfl scBeside.nd (pi_tup (pe_ix ix_tup (pv 1) pe_int (fun _ _ => rfl))) (blkOk_by (own := [("half", 6)]) (N := ["one", "other", "many", "onward", "mates", "mate", "half"]) (sc := (defScope s__law_beside)) (by decide +kernel)) (fun _ _ _ _ _ => (pg_name (i := 6) scBeside.nd rfl (Or.inl rfl))) (fun _ _ _ _ _ => pts_nil) (fun _ _ _ _ _ => (pe_op op_add (pv 6) (pv 2)))) pa_nil))))
   (pss_cons (ps_setLc (i := 4) (own := [("mate", 5)]) (g := gName 5) rfl scBeside.nd rfl rfl (sw_true rfl rfl rfl rfl) (pi_tup (pe_ix ix_tup (pv 1) pe_int (fun _ _ => rfl))) (blkOk_by (own := [("mate", 5)]) (N := ["one", "other", "many", "onward", "mates", "mate", "half"]) (sc := (defScope s__law_beside)) (by decide +kernel)) (fun _ _ _ _ _ => (pg_name (i := 5) scBeside.nd rfl (Or.inl rfl))) (fun _ _ _ _ _ => pts_nil) (fun _ _ _ _ _ => (pe_ifExp (pt_cmpR op_isN (pv 5) pe_non (nomark _)) pe_non (pe_op op_add (pv 5) (pv 2)))))
   (pss_one (ps_ret (pe_tup (pa_cons (pv 3) (pa_cons (pe_op op_catT (pe_ix ix_tup (pv 0) pe_int (fun _ _ => rfl)) (pe_callTy call_tuple_of rfl B.tuple_ bt_tuple (pa_cons (pv 4) pa_nil))) pa_nil)))))))), ?_⟩
  refine ⟨_, rfl, p, _, _, .ref po, rfl, rfl, SqT.of h1, at0 _ _, po, _, rfl, .inr (SqT.of h2), ?_⟩
  rw [hol]
  refine ⟨_, rfl, p, _, _, .ref po, rfl, rfl, SqT.of h1, at0 _ _, ?_⟩
  refine ⟨_, rfl, p2, _, _, .ref po2, rfl, rfl, SqT.of j1, at0 _ _, po2, rfl, ⟨_, SqT.of j2⟩, fun D hD => ?_⟩
  refine lc_tup (K := K) (a := po2) (xs := on2.map V.int) (Pv := fun i H2 => Same H H2 ∧ H2 D = some (.lst (((on2.map (· + (on.length : Int))).take i).map V.int))) ⟨same_put hD _, upd_same⟩ (fun i H2 _ pv => SqT.of (pv.1 _ _ j2)) ?_ ?_
  · rintro i x H2 hx ⟨s2, g1⟩
    rw [List.getElem?_map] at hx
    obtain ⟨v, hv, rfl⟩ := Option.map_eq_some_iff.mp hx
    have hi := (List.getElem?_eq_some_iff.mp hv).1
    refine ⟨rfl, yesT ?_⟩
    refine ⟨_, rfl, _, rfl, _, _, rfl, rfl, _, g1, by rw [List.length_map, List.length_take, sizeLine_eq]; omega, same_set s2 hD, ?_⟩
    rw [upd_same, List.take_succ, List.getElem?_map, hv, List.map_append]; rfl
  rintro H2 ⟨s2, g1⟩
  rw [List.length_map, List.take_of_length_le (by rw [List.length_map]; omega)] at g1
  refine ⟨D, _, rfl, .inl ⟨SqL.of g1, fun t1 ht1 => ?_⟩⟩
  have s3 := s2.trans (same_put ht1 (.tup ((on2.map (· + (on.length : Int))).map V.int)))
  refine ⟨po, t1, _, _, rfl, rfl, SqT.of (s3 _ _ h2), SqT.of upd_same, fun z => absurd sk.pos (by rw [List.map_eq_nil_iff.mp z]; decide), by rw [List.length_map, List.length_map, List.length_map, sizeLine_eq]; omega, fun z => absurd sk2.pos (by rw [List.map_eq_nil_iff.mp (List.map_eq_nil_iff.mp z)]; decide), fun _ t2 ht2 => ?_⟩
  have s5 := s3.trans (same_put ht2 (.tup (on.map V.int ++ (on2.map (· + (on.length : Int))).map V.int)))
  have e4 := upd_same (H := upd H2 t1 (.tup ((on2.map (· + (on.length : Int))).map V.int))) (a := t2) (o := .tup (on.map V.int ++ (on2.map (· + (on.length : Int))).map V.int))
  generalize upd (upd H2 t1 (.tup ((on2.map (· + (on.length : Int))).map V.int))) t2 (.tup (on.map V.int ++ (on2.map (· + (on.length : Int))).map V.int)) = H4 at s5 e4 ⊢
  rw [← List.map_append] at e4
  refine ⟨_, rfl, p2, _, _, .ref pm2, rfl, rfl, SqT.of (s5 _ _ j1), at1 _ _ _, pm2, rfl, ⟨_, SqT.of (s5 _ _ j3)⟩, fun D2 hD2 => ?_⟩
  have fD2 : H D2 = none := s5.free hD2
  refine lc_tup (K := K) (a := pm2) (xs := ms2.map mV) (Pv := fun i H6 => Same H4 H6 ∧ H6 D2 = some (.lst (((ms2.map (Option.map (· + (on.length : Int)))).take i).map mV))) ⟨same_put hD2 _, upd_same⟩ (fun i H6 _ pv => SqT.of (pv.1 _ _ (s5 _ _ j3))) ?_ ?_
  · rintro i x H6 hx ⟨s6, g6⟩
    rw [List.getElem?_map] at hx
    obtain ⟨v, hv, rfl⟩ := Option.map_eq_some_iff.mp hx
    have hi := (List.getElem?_eq_some_iff.mp hv).1
    have fin : ∀ u : V, u = mV (v.map (· + (on.length : Int))) → (upd H6 D2 (.lst (((ms2.map (Option.map (· + (on.length : Int)))).take i).map mV ++ [u]))) D2 = some (.lst (((ms2.map (Option.map (· + (on.length : Int)))).take (i + 1)).map mV)) := fun u eu => by
      rw [upd_same, List.take_succ, List.getElem?_map, hv, List.map_append, eu]; rfl
    refine ⟨rfl, yesT ?_⟩
    cases v with
    | none => exact ⟨_, rfl, rfl, _, rfl, itP rfl ⟨_, g6, by rw [List.length_map, List.length_take, sizeLine_eq]; omega, same_set s6 hD2, fin _ rfl⟩⟩
    | some m => exact ⟨_, rfl, rfl, _, rfl, itN rfl ⟨_, rfl, _, rfl, _, _, rfl, rfl, _, g6, by rw [List.length_map, List.length_take, sizeLine_eq]; omega, same_set s6 hD2, fin _ rfl⟩⟩
  rintro H6 ⟨s6, g6⟩
  rw [List.length_map, List.take_of_length_le (by rw [List.length_map]; omega)] at g6
  have s16 := s5.trans s6
  refine ⟨_, rfl, _, rfl, p, _, _, .ref pm, rfl, rfl, SqT.of (s16 _ _ h1), at1 _ _ _, _, rfl, D2, _, rfl, .inl ⟨SqL.of g6, fun t3 ht3 => ?_⟩⟩
  have s7 := s16.trans (same_put ht3 (.tup ((ms2.map (Option.map (· + (on.length : Int)))).map mV)))
  refine ⟨pm, t3, _, _, rfl, rfl, SqT.of (s7 _ _ h3), SqT.of upd_same, fun z => absurd sk.pos (by rw [← hml, List.map_eq_nil_iff.mp z]; decide), by rw [List.length_map, List.length_map, List.length_map, sizeLine_eq]; omega, fun z => absurd sk2.pos (by rw [← hml2, List.map_eq_nil_iff.mp (List.map_eq_nil_iff.mp z)]; decide), fun _ t4 ht4 => ⟨(by show 2 ≤ sizeLine; decide), fun r hr0 => ?_⟩⟩
  have s8 := s7.trans (same_put ht4 (.tup (ms.map mV ++ (ms2.map (Option.map (· + (on.length : Int)))).map mV)))
  refine q r _ (s8.trans (same_put hr0 _)) ⟨bes_ok sk sk2 hle, t2, t4, upd_same, up hr0 (up ht4 (up ht3 (s6 _ _ e4))), up hr0 (upd_same.trans (by rw [← List.map_append]; rfl))⟩
def spLaw (K : PySem.W.Frag) (T : TabL) : Sp := fun vs H Q _ => ∃ (a : Addr) (ns : List Int), vs = [.ref a] ∧ SqL K H a (ns.map V.int) ∧ ns.length ≤ 63 ∧ Tabs T H ∧ ∀ H', Q (.bl true) H'
theorem scLaw : FnScope ["script", "k", "bag", "skin", "both", "one"] ["script"] (defScope sLaw) := ⟨rfl, rfl, rfl, by decide +kernel, rfl, by decide +kernel, by decide +kernel⟩
theorem Loose.seq {K : PySem.W.Frag} {H H' : Hp} {a : Addr} {xs : List V} (e : Loose H H') (h : SqL K H a xs) : SqL K H' a xs := by
  rcases h with (h | ⟨o, h⟩) | h
  · exact .inl (.inl (e _ _ h (fun _ z => nomatch z)))
  · exact .inl (.inr ⟨o, e _ _ h (fun _ z => nomatch z)⟩)
  · exact .inr h
theorem ok_law {T : TabL} (B : Bi mg) (FT : Fn P w K mg base "_law_take" ["bag", "many"] 1 spTake) (FG : Fn P w K mg base "_law_bag" ["script", "k"] 1 (spBag K)) (FS : Fn P w K mg base "_law_skin" ["bag", "most"] 2 spSkin)
    (FBe : Fn P w K mg base "_law_beside" ["one", "other"] 1 spBeside) (FLp : Fn P w K mg base "_law_parts" ["skin"] 1 spLParts) (FPt : Fn P w K mg base "parts" ["skin"] 7 (spAllW T gPart (fun on _ => rngL on.length)))
    (F : Fun K "law" "law" sLaw f fd) : FnOk P w K mg base CX0 9 f fd ["script"] (spLaw K T) := by
  refine F.ok scLaw (fun vs H Q E h => ?_) (fun cdv A outer s H vs Q E hr h => ?_)
  · obtain ⟨a, ns, rfl, _⟩ := h; rfl
  obtain ⟨a, ns, rfl, hS, h63, TS0, q⟩ := h
  refine ⟨_, (pss_cons (ps_for PassesOwn.never rfl (pi_range1 rfl B.range_ (pa_cons (pe_op op_add pe_int (pe_callB (call_min2 rfl) rfl B.min_ bt_min (pa_cons (pe_callB call_len_seq rfl B.len_ bt_len (pa_cons (pv 0) pa_nil)) (pa_cons pe_int pa_nil)))) pa_nil)) (pg_name (i := 1) scLaw.nd rfl (Or.inl rfl))
   (pss_cons (ps_set (i := 2) scLaw.nd rfl (Or.inl rfl) (pe_callF FG hr (by decide) (pa_cons (pv 0) (pa_cons (pv 1) pa_nil))))
   (pss_cons (ps_set (i := 3) scLaw.nd rfl (Or.inl rfl) (pe_callF FS hr (by decide) (pa_cons (pv 2) (pa_cons (pe_ix ix_list (pe_lst (pa_cons pe_int (pa_cons pe_int pa_nil))) (pe_callTy call_int1 rfl B.int_ bt_int (pa_cons (pe_cmpR op_eq (pe_callF FT hr (by decide) (pa_cons (pv 2) (pa_cons pe_int pa_nil))) pe_int (nomark _)) pa_nil)) (fun _ _ => rfl)) pa_nil))))
   (pss_cons (ps_set (i := 4) scLaw.nd rfl (Or.inl rfl) (pe_callF FBe hr (by decide) (pa_cons (pv 3) (pa_cons (pe_callF FS hr (by decide) (pa_cons (pv 2) (pa_cons pe_int pa_nil))) pa_nil))))
   (pss_one (ps_for PassesOwn.never rfl (pi_tup (pe_tup (pa_cons (pv 3) (pa_cons (pv 4) (pa_cons (pv 3) pa_nil))))) (pg_name (i := 5) scLaw.nd rfl (Or.inl rfl))
   (pss_one (ps_if (pt_cmpR (op_neD hr.units) (pe_callF FPt hr (by decide) (pa_cons (pv 5) pa_nil)) (pe_callF FLp hr (by decide) (pa_cons (pv 5) pa_nil)) (nomark _))
   (pss_one (ps_ret pe_bl))
   pss_nil))))))))
   (pss_one (ps_ret pe_bl))), ?_⟩
  have hln : (ns.map V.int).length = ns.length := List.length_map _
  refine ⟨_, rfl, a, _, rfl, .inl hS, _, _, rfl, _, _, rfl, rfl, ?_⟩
  refine ⟨_, rfl, by rw [hln]; split <;> omega, by rw [hln]; split <;> omega, for_range (lo := 0)
    (fun i σ H1 => ∃ v1 v2 v3 v4 v5 : Option V, σ = [some (.ref a), v1, v2, v3, v4, v5] ∧ Loose H H1 ∧ Tabs T H1)
    ⟨none, none, none, none, none, rfl, Loose.refl _, TS0⟩ ?_ (fun _ _ _ => q _)⟩
  rintro i σ H1 _ ⟨v1, v2, v3, v4, v5, rfl, s1, TS1⟩
  rw [Int.zero_add]
  refine ⟨_, rfl, _, rfl, a, ns, (i : Int), rfl, s1.seq hS, h63, by omega, fun b x y hb0 => ?_⟩
  have fb : H1 b = none := hb0
  have s2 := same_new hb0 (.lst [.int x, .int y])
  have nb : ∀ c u, H1 c = some u → c ≠ b := fun c u hu => ne_of_none hu fb
  refine ⟨_, rfl, (by show 2 ≤ sizeLine; decide), fun p hp => ⟨_, rfl, b, x, y, 8, rfl, up hp upd_same, by decide, by decide, fun r H3 x3 y3 h30 h31 hb3 o3 => ⟨rfl, .inr ⟨_, rfl, ?_⟩⟩⟩⟩
  obtain ⟨most, hmost, hma⟩ := at_ints (ns := [40, 300]) (i := if decide (V.int r = V.int 0) = true then 1 else 0) (by split <;> decide) (by split <;> decide)
  have hm1 : 1 ≤ most ∧ most ≤ 400 := by
    have : most = 40 ∨ most = 300 := by simpa using hmost
    omega
  have npb : p ≠ b := (ne_of_none upd_same hp).symm
  refine ⟨p, [40, 300].map V.int, _, .int most, rfl, rfl, SqL.of ((o3 p npb).trans upd_same), hma, ?_⟩
  have s3 : Same H1 H3 := fun c u hu => (o3 c (nb c u hu)).trans (up hp (s2 c u hu))
  refine ⟨b, x3, y3, most, rfl, hb3, hm1.1, hm1.2, fun H4 sk po pm on ms x4 y4 Sk hom B4 hb4 fs fo fm hs4 ho4 hm4 => ?_⟩
  have s4 : Same H1 H4 := fun c u hu => B4 c u (nb c u hu) (s3 c u hu)
  have SA : SkAt H4 sk on ms := ⟨Sk, po, pm, hs4, ho4, hm4⟩
  have nsb : sk ≠ b := fun z => by rw [z, hb3] at fs; cases fs
  have nob : po ≠ b := fun z => by rw [z, hb3] at fo; cases fo
  have nmb : pm ≠ b := fun z => by rw [z, hb3] at fm; cases fm
  have SB : ∀ H', But b H4 H' → SkAt H' sk on ms := fun H' bt => ⟨Sk, po, pm, bt _ _ nsb hs4, bt _ _ nob ho4, bt _ _ nmb hm4⟩
  have hle := Sk.le
  have TS4 := TS1.same s4
  refine ⟨_, rfl, _, rfl, b, x4, y4, 40, rfl, hb4, by decide, by decide, fun H5 sk2 po2 pm2 on2 ms2 x5 y5 Sk2 hom2 B5 hb5 fs2 fo2 fm2 hs5 ho5 hm5 => ?_⟩
  have nb4 : ∀ c u, H1 c = some u → c ≠ b := nb
  have SA5 := SA.but hb4 B5
  have SB5 : SkAt H5 sk2 on2 ms2 := ⟨Sk2, po2, pm2, hs5, ho5, hm5⟩
  have L5 : Loose H1 H5 := fun c u hu _ => B5 c u (nb c u hu) (s4 c u hu)
  have TS5 := TS4.but hb4 B5
  have hm300 : on.length ≤ 300 := by
    have : most = 40 ∨ most = 300 := by simpa using hmost
    omega
  refine ⟨sk, sk2, on, on2, ms, ms2, rfl, SA5, SB5, by omega, fun bo H6 s6 SO => ?_⟩
  have L6 := L5.trans s6.loose
  have TS6 := TS5.same s6
  have SA6 := SA5.same s6
  refine ⟨_, rfl, _, rfl, _, rfl, (by show 3 ≤ sizeLine; decide), fun tp htp => ?_⟩
  have s7 := same_put htp (.tup [V.ref sk, V.ref bo, V.ref sk])
  have e7 := upd_same (H := H6) (a := tp) (o := .tup [V.ref sk, V.ref bo, V.ref sk])
  generalize upd H6 tp (.tup [V.ref sk, V.ref bo, V.ref sk]) = H7 at s7 e7 ⊢
  have L7 := L6.trans s7.loose
  have TS7 := TS6.same s7
  have SA7 := SA6.same s7
  have SO7 := SO.same s7
  refine ⟨tp, rfl, ⟨_, SqT.of e7⟩, for_tup (K := K) (a := tp) (xs := [V.ref sk, V.ref bo, V.ref sk]) (fun j σ H8 => ∃ v5 : Option V, σ = [some (.ref a), some (.int (i : Int)), some (.ref b), some (.ref sk), some (.ref bo), v5] ∧ Loose H7 H8 ∧ Tabs T H8)
    ⟨v5, rfl, Loose.refl _, TS7⟩ (fun j σ H8 _ ⟨_, _, z, _⟩ => SqT.of (z _ _ e7 nofun)) ?_ (fun σ H8 ⟨v5, e, s8, TS8⟩ => ⟨_, _, _, _, _, e, s1.trans (L7.trans s8), TS8⟩)⟩
  rintro j x σ H8 hx ⟨v5, rfl, s8, TS8⟩
  obtain ⟨p', on', ms', rfl, SP⟩ : ∃ p' on' ms', x = V.ref p' ∧ SkAt H8 p' on' ms' := by
    have hm := List.mem_of_getElem? hx
    have : x = V.ref sk ∨ x = V.ref bo ∨ x = V.ref sk := by simpa using hm
    rcases this with rfl | rfl | rfl
    · exact ⟨sk, on, ms, rfl, SA7.loose s8⟩
    · exact ⟨bo, _, _, rfl, SO7.loose s8⟩
    · exact ⟨sk, on, ms, rfl, SA7.loose s8⟩
  have sp := SP.ok
  refine ⟨_, rfl, p', on', ms', rfl, SP, TS8, fun r0 H9 s9 TS9 R0 => ?_⟩
  replace R0 : Rows H9 r0 (partsL on' ms') := R0
  refine ⟨_, rfl, p', on', ms', rfl, SP.loose s9, fun r1 H10 s10 R1 => ?_⟩
  have gd : Gd 2 (rowsD (partsL on' ms')) := by
    refine gd_rows ?_ fun row hr => ?_
    · have := onceF_len (g := partL on' ms') (rngL on'.length) []
      rw [rngL_len] at this
      have := sp.le
      unfold partsL; omega
    · obtain ⟨h, hh, rfl⟩ := onceF_mem _ _ row hr
      have := partL_len (on := on') (ms := ms') h
      have := sp.le
      omega
  refine ⟨_, _, (R0.same s10).dp (K := K), R1.dp (K := K), gd.shaped (by decide), gd.shaped (by decide), _, rfl, itN (by rw [gd.eqv]; rfl) ?_⟩
  exact ⟨_, rfl, s8.trans (s9.trans s10.loose), TS9.same s10⟩
end
end Hs
set_option Elab.async false
set_option linter.all false
set_option maxRecDepth 100000
set_option maxHeartbeats 600000
namespace Hs
open PySem L2
theorem fn_of {P : Program} {w : World} {K : PySem.W.Frag} {mg : Str → Option Value} {base : Heap} {x : Str} {st : Stmt} {f : Addr} {fd : FuncData} {ps : List Str} {k : Nat} {sp : Sp} (F : Fun K x x st f fd) (G : FnOk P w K mg base CX0 k f fd ps sp) (b : Binds K fd ps []) (m : mg x = some (.ref f)) :
    Fn P w K mg base x ps k sp := ⟨f, fd, G, b, F.kp, m⟩
theorem all_mk {l : PySem.W.OpenLaw} {w : World} {K : PySem.W.Frag} {h : Heap} {mg : Str → Option Value} {fa f1 f2 f3 f4 f5 f6 f7 f8 f9 f10 : Addr} {cc3 P3 : Addr} (X : K.In h) (G : h.Ns mainGlobals mg) (hfa : mg "law" = some (.ref fa))
    {od1 an1 od2 an2 od3 an3 od4 an4 od5 an5 od6 an6 od7 an7 od8 an8 od9 an9 od10 an10 : Option Addr} {sl1 sl2 sl3 sl4 sl5 sl6 sl7 sl8 sl9 sl10 : Array (Option Value)} {oc1 kV1 dc1 pm1 ct1 cd1 oc2 kV2 dc2 pm2 ct2 cd2 oc3 kV3 dc3 pm3 ct3 oc4 kV4 dc4 pm4 ct4 cd4 oc5 kV5 dc5 pm5 ct5 cd5 oc6 kV6 dc6 pm6 ct6 cd6 oc7 kV7 dc7 pm7 ct7 cd7 oc8 kV8 dc8 pm8 ct8 cd8 oc9 kV9 dc9 pm9 ct9 cd9 oc10 kV10 dc10 pm10 ct10 cd10 : Value}
    (a1 : PySem.W.nsIn K mainGlobals "all_halves" = some (some (.ref f1)))
    (l1 : K.lookup f1 = some ⟨oc1, od1, .func (PySem.W.fnOf "all_halves" "all_halves" (defArgs s_all_halves) (defBody s_all_halves) (defScope s_all_halves) .none kV1 dc1 pm1 an1 cd1 ct1), sl1⟩)
    (c1 : PySem.W.codeIn K cd1 "all_halves" = true)
    (k1 : PySem.W.keepIn K (.ref f1) = true)
    (a2 : PySem.W.nsIn K mainGlobals "each_once" = some (some (.ref f2)))
    (l2 : K.lookup f2 = some ⟨oc2, od2, .func (PySem.W.fnOf "each_once" "each_once" (defArgs s_each_once) (defBody s_each_once) (defScope s_each_once) .none kV2 dc2 pm2 an2 cd2 ct2), sl2⟩)
    (c2 : PySem.W.codeIn K cd2 "each_once" = true)
    (k2 : PySem.W.keepIn K (.ref f2) = true)
    (a3 : PySem.W.nsIn K mainGlobals "parts" = some (some (.ref f3)))
    (l3 : K.lookup f3 = some ⟨oc3, od3, .func (PySem.W.fnOf "parts" "parts" (defArgs s_parts) (defBody s_parts) (defScope s_parts) .none kV3 dc3 pm3 an3 (.ref cc3) ct3), sl3⟩)
    (c3 : PySem.W.codeIn K (.ref cc3) "parts" = true)
    (k3 : PySem.W.keepIn K (.ref f3) = true)
    {co3 : Option Addr} {cv3 : Array Value} {cs3 : Array (Option Value)} {cf3 : Str} {tf3 tg3 tt3 : Tok} {fl3 tx3 : Int} {nF3 : Bool}
    (kl3 : K.lookup cc3 = some ⟨.type "code", co3, .fields cv3, cs3⟩)
    (e11_3 : cv3[11]? = some (.ref P3))
    (g11_3 : cv3.getD 11 .none = .ref P3)
    (g18_3 : cv3.getD 18 .none = .str cf3 tf3)
    (g7_3 : cv3.getD 7 .none = .int fl3 tg3)
    (g9_3 : cv3.getD 9 .none = .bool nF3)
    (g10_3 : cv3.getD 10 .none = .int tx3 tt3)
    (ne3 : cc3 ≠ P3)
    (a4 : PySem.W.nsIn K mainGlobals "reached_from" = some (some (.ref f4)))
    (l4 : K.lookup f4 = some ⟨oc4, od4, .func (PySem.W.fnOf "reached_from" "reached_from" (defArgs s_reached_from) (defBody s_reached_from) (defScope s_reached_from) .none kV4 dc4 pm4 an4 cd4 ct4), sl4⟩)
    (c4 : PySem.W.codeIn K cd4 "reached_from" = true)
    (k4 : PySem.W.keepIn K (.ref f4) = true)
    (a5 : PySem.W.nsIn K mainGlobals "_law_beside" = some (some (.ref f5)))
    (l5 : K.lookup f5 = some ⟨oc5, od5, .func (PySem.W.fnOf "_law_beside" "_law_beside" (defArgs s__law_beside) (defBody s__law_beside) (defScope s__law_beside) .none kV5 dc5 pm5 an5 cd5 ct5), sl5⟩)
    (c5 : PySem.W.codeIn K cd5 "_law_beside" = true)
    (k5 : PySem.W.keepIn K (.ref f5) = true)
    (a6 : PySem.W.nsIn K mainGlobals "_law_bag" = some (some (.ref f6)))
    (l6 : K.lookup f6 = some ⟨oc6, od6, .func (PySem.W.fnOf "_law_bag" "_law_bag" (defArgs sBag) (defBody sBag) (defScope sBag) .none kV6 dc6 pm6 an6 cd6 ct6), sl6⟩)
    (c6 : PySem.W.codeIn K cd6 "_law_bag" = true)
    (k6 : PySem.W.keepIn K (.ref f6) = true)
    (a7 : PySem.W.nsIn K mainGlobals "_law_take" = some (some (.ref f7)))
    (l7 : K.lookup f7 = some ⟨oc7, od7, .func (PySem.W.fnOf "_law_take" "_law_take" (defArgs sTake) (defBody sTake) (defScope sTake) .none kV7 dc7 pm7 an7 cd7 ct7), sl7⟩)
    (c7 : PySem.W.codeIn K cd7 "_law_take" = true)
    (k7 : PySem.W.keepIn K (.ref f7) = true)
    (a8 : PySem.W.nsIn K mainGlobals "_law_skin" = some (some (.ref f8)))
    (l8 : K.lookup f8 = some ⟨oc8, od8, .func (PySem.W.fnOf "_law_skin" "_law_skin" (defArgs sSkin) (defBody sSkin) (defScope sSkin) .none kV8 dc8 pm8 an8 cd8 ct8), sl8⟩)
    (c8 : PySem.W.codeIn K cd8 "_law_skin" = true)
    (k8 : PySem.W.keepIn K (.ref f8) = true)
    (a9 : PySem.W.nsIn K mainGlobals "_law_parts" = some (some (.ref f9)))
    (l9 : K.lookup f9 = some ⟨oc9, od9, .func (PySem.W.fnOf "_law_parts" "_law_parts" (defArgs s__law_parts) (defBody s__law_parts) (defScope s__law_parts) .none kV9 dc9 pm9 an9 cd9 ct9), sl9⟩)
    (c9 : PySem.W.codeIn K cd9 "_law_parts" = true)
    (k9 : PySem.W.keepIn K (.ref f9) = true)
    (a10 : PySem.W.nsIn K mainGlobals "law" = some (some (.ref f10)))
    (l10 : K.lookup f10 = some ⟨oc10, od10, .func (PySem.W.fnOf "law" "law" (defArgs sLaw) (defBody sLaw) (defScope sLaw) .none kV10 dc10 pm10 an10 cd10 ct10), sl10⟩)
    (c10 : PySem.W.codeIn K cd10 "law" = true)
    (k10 : PySem.W.keepIn K (.ref f10) = true)
    (z_len : PySem.W.nsIn K mainGlobals "len" = some none)
    (z_range : PySem.W.nsIn K mainGlobals "range" = some none)
    (z_list : PySem.W.nsIn K mainGlobals "list" = some none)
    (z_tuple : PySem.W.nsIn K mainGlobals "tuple" = some none)
    (z_min : PySem.W.nsIn K mainGlobals "min" = some none)
    (z_int : PySem.W.nsIn K mainGlobals "int" = some none)
    (z_bool : PySem.W.nsIn K mainGlobals "bool" = some none)
    (z_isinstance : PySem.W.nsIn K mainGlobals "isinstance" = some none)
    (z_set : PySem.W.nsIn K mainGlobals "set" = some none)
    (z_all : PySem.W.nsIn K mainGlobals "all" = some none)
    (z_enumerate : PySem.W.nsIn K mainGlobals "enumerate" = some none)
    (z_sorted : PySem.W.nsIn K mainGlobals "sorted" = some none)
    : ∃ fd : FuncData, (∀ (s : Shared) (v : Value), BindsTo s fd ⟨[v], []⟩ [("script", v)]) ∧ ∀ base : Heap, K.In base → base.Ns mainGlobals mg → Bmain mg base → FnOk l.prog w K mg base CX0 9 fa fd ["script"] (spLaw K [tabOf P3 "parts" s_parts]) := by
  have e := hfa.symm.trans (PySem.W.mg_of X G a10)
  cases e
  have F1 := fun_mk (st := s_all_halves) l1 c1 k1
  have b1 := F1.binds (ps := ["skin"]) fun _ _ _ _ _ _ us hl => match us, hl with | [_], _ => rfl
  have m1 := PySem.W.mg_of X G a1
  have F2 := fun_mk (st := s_each_once) l2 c2 k2
  have b2 := F2.binds (ps := ["halves", "walk_from"]) fun _ _ _ _ _ _ us hl => match us, hl with | [_, _], _ => rfl
  have m2 := PySem.W.mg_of X G a2
  have F3 := funC_mk (st := s_parts) l3 c3 k3
  have b3 := F3.toFun.binds (ps := ["skin"]) fun _ _ _ _ _ _ us hl => match us, hl with | [_], _ => rfl
  have m3 := PySem.W.mg_of X G a3
  have F4 := fun_mk (st := s_reached_from) l4 c4 k4
  have b4 := F4.binds (ps := ["skin", "half"]) fun _ _ _ _ _ _ us hl => match us, hl with | [_, _], _ => rfl
  have m4 := PySem.W.mg_of X G a4
  have F5 := fun_mk (st := s__law_beside) l5 c5 k5
  have b5 := F5.binds (ps := ["one", "other"]) fun _ _ _ _ _ _ us hl => match us, hl with | [_, _], _ => rfl
  have m5 := PySem.W.mg_of X G a5
  have F6 := fun_mk (st := sBag) l6 c6 k6
  have b6 := F6.binds (ps := ["script", "k"]) fun _ _ _ _ _ _ us hl => match us, hl with | [_, _], _ => rfl
  have m6 := PySem.W.mg_of X G a6
  have F7 := fun_mk (st := sTake) l7 c7 k7
  have b7 := F7.binds (ps := ["bag", "many"]) fun _ _ _ _ _ _ us hl => match us, hl with | [_, _], _ => rfl
  have m7 := PySem.W.mg_of X G a7
  have F8 := fun_mk (st := sSkin) l8 c8 k8
  have b8 := F8.binds (ps := ["bag", "most"]) fun _ _ _ _ _ _ us hl => match us, hl with | [_, _], _ => rfl
  have m8 := PySem.W.mg_of X G a8
  have F9 := fun_mk (st := s__law_parts) l9 c9 k9
  have b9 := F9.binds (ps := ["skin"]) fun _ _ _ _ _ _ us hl => match us, hl with | [_], _ => rfl
  have m9 := PySem.W.mg_of X G a9
  have F10 := fun_mk (st := sLaw) l10 c10 k10
  have B : BiW mg := ⟨⟨PySem.W.mg_none_of X G z_len, PySem.W.mg_none_of X G z_range, PySem.W.mg_none_of X G z_list, PySem.W.mg_none_of X G z_tuple, PySem.W.mg_none_of X G z_min, PySem.W.mg_none_of X G z_int, PySem.W.mg_none_of X G z_bool, PySem.W.mg_none_of X G z_isinstance, PySem.W.mg_none_of X G z_set, PySem.W.mg_none_of X G z_all, PySem.W.mg_none_of X G z_enumerate⟩, PySem.W.mg_none_of X G z_sorted⟩
  let T : TabL := [tabOf P3 "parts" s_parts]
  have hT3 : (tabOf P3 "parts" s_parts) ∈ T := (List.Mem.head _)
  have hU3 : ∀ t ∈ T, t.1 = P3 → t = (tabOf P3 "parts" s_parts) := fun t ht e => by
    rcases List.mem_cons.mp ht with q | ht
    · exact q
    cases ht
  have Cd3 : ∀ h, K.In h → PySem.W.CodeHd h cc3 P3 := fun h X => codeHd_of X kl3 e11_3 g11_3 g18_3 g7_3 g9_3 g10_3 ne3
  refine ⟨PySem.W.fnOf "law" "law" (defArgs sLaw) (defBody sLaw) (defScope sLaw) .none kV10 dc10 pm10 an10 cd10 ct10, fun s v => .of_eq rfl, fun base kin _ Bm => ?_⟩
  have FT : Fn l.prog w K mg base _ _ _ _ := fn_of F7 (ok_take F7) b7 m7
  have FG : Fn l.prog w K mg base _ _ _ _ := fn_of F6 (ok_bag B.toBi F6) b6 m6
  have FS : Fn l.prog w K mg base _ _ _ _ := fn_of F8 (ok_skin B.toBi FT F8) b8 m8
  have FH : Fn l.prog w K mg base _ _ _ _ := fn_of F1 (ok_halves B.toBi F1) b1 m1
  have FO := ok_once B.toBi (P := l.prog) (w := w) (base := base) F2 b2 m2
  have FRe : Fn l.prog w K mg base _ _ _ _ := fn_of F4 (ok_reached B.toBi F4) b4 m4
  have FPt : Fn l.prog w K mg base _ _ _ _ := fn_of F3.toFun (ok_parts hT3 hU3 B.toBi kin Cd3 Bm B.sorted_ FO FH FRe F3) b3 m3
  have FLp : Fn l.prog w K mg base _ _ _ _ := fn_of F9 (ok_lparts B.toBi B.sorted_ F9) b9 m9
  have FBe : Fn l.prog w K mg base _ _ _ _ := fn_of F5 (ok_beside B.toBi F5) b5 m5
  exact ok_law B.toBi FT FG FS FBe FLp FPt F10
theorem walk {l : PySem.W.OpenLaw} {q : Program} {loose : List Str} {XP : (Str → Option Value) → Heap → Prop} {YP : World → Heap → Prop} {d : DefRec} {K : Params → PySem.W.Frag} {P3 : Addr} (hn : l.most = some 63) (hdf : d.params.defaults = [])
    (hY : ∀ (w : World) (h : Heap), YP w h → (K w.params).In h)
    (F : ∀ (w : World) (mg : Str → Option Value) (fa : Addr) (h : Heap), (K w.params).In h → h.Ns mainGlobals mg → mg d.name = some (.ref fa) →
      ∃ fd : FuncData, (∀ (s : Shared) (u : Value), BindsTo s fd ⟨[u], []⟩ [("script", u)]) ∧ ∀ base : Heap, (K w.params).In base → base.Ns mainGlobals mg → Bmain mg base → FnOk l.prog w (K w.params) mg base CX0 9 fa fd ["script"] (spLaw (K w.params) [tabOf P3 "parts" s_parts]))
    (nT : ∀ w : World, PySem.W.noTabs (K w.params) = true)
    (hx3 : ∀ w : World, ∃ y e, (PyProof.Rows.recsOf q).find? (fun e => e.name == y) = some e ∧ (PySem.W.tabIn (K w.params) y).map (·.2) = some P3) :
    PySem.W.WalkO q loose XP YP l.row.toRowW d [] (fun f vs => PySem.call f vs) :=
  Hs.walk_ofT (n := 63) (k := 9) (x := "script") (sp := fun w => spLaw (K w.params) [tabOf P3 "parts" s_parts]) [P3] hn (by decide) hdf ⟨rfl, by decide, by decide⟩ hY nT (fun w cp m => by
    rcases List.mem_cons.mp m with rfl | m
    · exact hx3 w
    cases m) F (fun _ _ a ns hl hS ht => ⟨a, ns, rfl, hS, hl, (fun t m => by
    rcases List.mem_cons.mp m with rfl | m
    · exact ⟨#[], ht P3 (List.Mem.head _), trivial, .inl rfl⟩
    cases m), fun _ => rfl⟩)
end Hs
open PySem PySem.W PyProof.Rows
set_option maxRecDepth 100000 in
set_option maxHeartbeats 0 in
theorem PySem.Challenge.cw_halfseams_k07_parts_by_hand_holds : PySem.Challenge.rw_halfseams_k07_parts_by_hand.Holds := by
  w_on; o_law; k_head; (case hw => w_witness2)
  k_fill
  refine' Hs.walk (l := PySem.Challenge.rw_halfseams_k07_parts_by_hand) rfl rfl (fun w h Y => PySem.W.km_in_of Y) ?F ?nT ?hx3
  case F =>
    intro w mg fa h KX G hmg
    refine' Hs.all_mk KX G hmg ?a1 ?l1 ?c1 ?k1 ?a2 ?l2 ?c2 ?k2 ?a3 ?l3 ?c3 ?k3 ?kl3 ?e11_3 ?g11_3 ?g18_3 ?g7_3 ?g9_3 ?g10_3 ?ne3 ?a4 ?l4 ?c4 ?k4 ?a5 ?l5 ?c5 ?k5 ?a6 ?l6 ?c6 ?k6 ?a7 ?l7 ?c7 ?k7 ?a8 ?l8 ?c8 ?k8 ?a9 ?l9 ?c9 ?k9 ?a10 ?l10 ?c10 ?k10 ?z_len ?z_range ?z_list ?z_tuple ?z_min ?z_int ?z_bool ?z_isinstance ?z_set ?z_all ?z_enumerate ?z_sorted
    (case a1 => k_is)
    (case l1 => k_is)
    (case c1 => k_is)
    (case k1 => k_is)
    (case a2 => k_is)
    (case l2 => k_is)
    (case c2 => k_is)
    (case k2 => k_is)
    (case a3 => k_is)
    (case l3 => k_is)
    (case c3 => k_is)
    (case k3 => k_is)
    (case kl3 => k_is)
    (case e11_3 => rfl)
    (case g11_3 => rfl)
    (case g18_3 => rfl)
    (case g7_3 => rfl)
    (case g9_3 => rfl)
    (case g10_3 => rfl)
    (case ne3 => decide)
    (case a4 => k_is)
    (case l4 => k_is)
    (case c4 => k_is)
    (case k4 => k_is)
    (case a5 => k_is)
    (case l5 => k_is)
    (case c5 => k_is)
    (case k5 => k_is)
    (case a6 => k_is)
    (case l6 => k_is)
    (case c6 => k_is)
    (case k6 => k_is)
    (case a7 => k_is)
    (case l7 => k_is)
    (case c7 => k_is)
    (case k7 => k_is)
    (case a8 => k_is)
    (case l8 => k_is)
    (case c8 => k_is)
    (case k8 => k_is)
    (case a9 => k_is)
    (case l9 => k_is)
    (case c9 => k_is)
    (case k9 => k_is)
    (case a10 => k_is)
    (case l10 => k_is)
    (case c10 => k_is)
    (case k10 => k_is)
    (case z_len => k_is)
    (case z_range => k_is)
    (case z_list => k_is)
    (case z_tuple => k_is)
    (case z_min => k_is)
    (case z_int => k_is)
    (case z_bool => k_is)
    (case z_isinstance => k_is)
    (case z_set => k_is)
    (case z_all => k_is)
    (case z_enumerate => k_is)
    (case z_sorted => k_is)
  case nT => intro w; kernel_rfl
  case hx3 => intro w; exact ⟨"parts", _, rfl, by kernel_rfl⟩

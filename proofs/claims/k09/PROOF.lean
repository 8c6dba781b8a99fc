import PyProof.Rows.All
import Wide.All
import OpenK.AllK
import Wide.FinOn
import PyProof.EqAt
import PyProof.EqKinds
import PyProof.TupleCall
import KE.BitLaws
import PyProof.IsiPairs
import PyProof.IsiNone
import PyProof.IsiSeqPairs
import PyProof.SetRoads
import PyProof.SetNew
import PyProof.Rows.SetObj
import PyProof.ListRange
import PyProof.Draws
import PyProof.EnumMake
import PyProof.WalksMore
import PyProof.ListMulRoad
import PyProof.Rows.SeqMore
import PyProof.FactsAll.tuple
import KE.KTryMore
import KE.KIsAll
import PyProof.P3Eq
import KE.KLam
import PyProof.Rows.SortShellAny
import KE.KSuper
import PyProof.ExcInit
import PyProof.ExcClass2
import PyProof.InstStoreFacts
import KE.KFromBytes
import PyProof.SetScanFacts
import PyProof.Rows.SetFrom
import KE.KSetDisp
import KE.KStar
import PyProof.CollectIter
import PyProof.DictUpdate
import PyProof.Rows.SumAny
import PySem.Challenge.RW_halfseams_k09_whole_known_counts
set_option Elab.async false
set_option linter.all false
set_option maxRecDepth 100000
namespace L2
open PySem PySem.Spec PyProof.Rows
abbrev Key := Sum Int (Option Str)
def keyIs : Key → Value → Bool
  | .inl k, v => Value.isInt k v
  | .inr (some x), v => Value.isStrOf x v
  | .inr none, .none => true
  | .inr none, _ => false
def keyH (w : World) : Key → Int
  | .inl k => hashInt k
  | .inr (some x) => hashStr w x
  | .inr none => 0xFCA86420
theorem keyIs_shape : ∀ {k : Key} {v : Value}, keyIs k v = true → (∃ i t, k = Sum.inl i ∧ v = Value.int i t) ∨ (∃ x t, k = Sum.inr (some x) ∧ v = Value.str x t) ∨ (k = Sum.inr none ∧ v = Value.none)
  | .inl i, v, h => by
    obtain ⟨t, e⟩ := Value.isInt_shape (k := i) (v := v) h
    exact .inl ⟨i, t, rfl, e⟩
  | .inr (some x), v, h => by
    obtain ⟨t, e⟩ := Value.isStrOf_shape (x := x) (v := v) h
    exact .inr (.inl ⟨x, t, rfl, e⟩)
  | .inr none, v, h => by
    cases v with
    | none => exact .inr (.inr ⟨rfl, rfl⟩)
    | _ => cases h
theorem key_ll (a b : Int) : decide ((Sum.inl a : Key) = Sum.inl b) = (a == b) := by
  by_cases e : a = b
  · subst e; simp
  · have h : ¬ (Sum.inl a : Key) = Sum.inl b := fun q => e (Sum.inl.inj q)
    rw [decide_eq_false h]
    exact (beq_eq_false_iff_ne.mpr e).symm
theorem key_rr (a b : Str) : decide ((Sum.inr (some a) : Key) = Sum.inr (some b)) = decide (a = b) := by
  by_cases e : a = b
  · subst e; simp
  · have h : ¬ (Sum.inr (some a) : Key) = Sum.inr (some b) := fun q => e (Option.some.inj (Sum.inr.inj q))
    rw [decide_eq_false h, decide_eq_false e]
theorem key_lr (a : Int) (b : Option Str) : decide ((Sum.inl a : Key) = Sum.inr b) = false := decide_eq_false (fun q => nomatch q)
theorem key_rl (a : Option Str) (b : Int) : decide ((Sum.inr a : Key) = Sum.inl b) = false := decide_eq_false (fun q => nomatch q)
theorem key_ns (b : Str) : decide ((Sum.inr none : Key) = Sum.inr (some b)) = false := decide_eq_false (fun q => nomatch (Sum.inr.inj q))
theorem key_sn (b : Str) : decide ((Sum.inr (some b) : Key) = Sum.inr none) = false := decide_eq_false (fun q => nomatch (Sum.inr.inj q))
theorem key_nn : decide ((Sum.inr none : Key) = Sum.inr none) = true := decide_eq_true rfl
theorem wpAny_pyHash_none {prog : Program} {w : World} {A : Around} {E : Value → Shared → Prop} {s : Shared} {Q : Int → Shared → Prop} (h : Q 0xFCA86420 { s with toks := s.toks + 1 }) :
    wpAny (model prog w) A (pyHash .none) Q E s := by
  have hT : s.TypeIs .none "NoneType" := rfl
  unfold pyHash
  have hv : [Value.none].any Value.onHeap = false := rfl
  refine wpAny_bind ?_
  rw [cRoomFor, if_neg (by rw [hv]; exact Bool.false_ne_true)]; refine wpAny_pure ?_
  refine wpAny_bind (wpAny_specialOf hT F.slot_NoneType_hash.lookup ?_)
  show wpAny _ _ (if (some (Value.builtin "NoneType.__hash__") == some Value.none) = true then _ else _) Q E s
  rw [if_neg (by rw [beq_builtin_none]; exact Bool.false_ne_true)]
  refine wpAny_bind (wpAny_specialOf hT F.slot_NoneType_hash.lookup ?_)
  show wpAny _ _ (callSpecialIfBoundUnlessNone? .none "__hash__" _ >>= _) Q E s
  refine wpAny_bind (wpAny_callSpecialIfBoundUnlessNone?_slot hT F.slot_NoneType_hash
    (wpAny_call_entry F.slot_NoneType_hash hT F.entry_NoneType_hash
      (show wpAny _ _ (do ret (← mkInt 0xFCA86420)) _ _ s from wpAny_ret_mkInt ?_) (F.args_NoneType_hash_1 _)))
  show wpAny _ _ (if (decide (-(2 : Int) ^ 63 ≤ 0xFCA86420) && decide ((0xFCA86420 : Int) < 2 ^ 63)) = true then _ else _) Q E _
  rw [if_pos (by decide)]
  exact wpAny_pure h
def mixKind (prog : Program) (w : World) : PySem.KeyKind prog w Key where
  is := keyIs
  hash := keyH w
  inj := fun v a b ha hb => by
    rcases keyIs_shape ha with ⟨i, t, rfl, rfl⟩ | ⟨x, t, rfl, rfl⟩ | ⟨rfl, rfl⟩
    · rcases keyIs_shape hb with ⟨j, u, rfl, e⟩ | ⟨y, u, rfl, e⟩ | ⟨rfl, e⟩
      · injection e with e1 _; rw [e1]
      · exact nomatch e
      · exact nomatch e
    · rcases keyIs_shape hb with ⟨j, u, rfl, e⟩ | ⟨y, u, rfl, e⟩ | ⟨rfl, e⟩
      · exact nomatch e
      · injection e with e1 _; rw [e1]
      · exact nomatch e
    · rcases keyIs_shape hb with ⟨j, u, rfl, e⟩ | ⟨y, u, rfl, e⟩ | ⟨rfl, e⟩
      · exact nomatch e
      · exact nomatch e
      · rfl
  byValue := fun k v h => by
    rcases keyIs_shape h with ⟨i, t, rfl, rfl⟩ | ⟨x, t, rfl, rfl⟩ | ⟨rfl, rfl⟩ <;> rfl
  pyHash := fun hv h => by
    rcases keyIs_shape hv with ⟨i, t, rfl, rfl⟩ | ⟨x, t, rfl, rfl⟩ | ⟨rfl, rfl⟩
    · exact wpAny_pyHash_int h
    · exact wpAny_pyHash_str h
    · exact wpAny_pyHash_none h
  eqBool := fun hu hv h => by
    rcases keyIs_shape hu with ⟨i, t, rfl, rfl⟩ | ⟨x, t, rfl, rfl⟩ | ⟨rfl, rfl⟩
    · rcases keyIs_shape hv with ⟨j, u, rfl, rfl⟩ | ⟨y, u, rfl, rfl⟩ | ⟨rfl, rfl⟩
      · rw [key_ll] at h; exact wpAny_eqBool_int h
      · rw [key_lr] at h; exact SeqAt.EqAt.int_str i t y u _ _ _ _ h
      · rw [key_lr] at h; exact SeqAt.EqAt.int_none i t _ _ _ _ h
    · rcases keyIs_shape hv with ⟨j, u, rfl, rfl⟩ | ⟨y, u, rfl, rfl⟩ | ⟨rfl, rfl⟩
      · rw [key_rl] at h; exact SeqAt.EqAt.str_int x t j u _ _ _ _ h
      · rw [key_rr] at h; exact wpAny_eqBool_str h
      · rw [key_sn] at h; exact SeqAt.EqAt.str_none x t _ _ _ _ h
    · rcases keyIs_shape hv with ⟨j, u, rfl, rfl⟩ | ⟨y, u, rfl, rfl⟩ | ⟨rfl, rfl⟩
      · rw [key_rl] at h; exact SeqAt.EqAt.none_int j u _ _ _ _ h
      · rw [key_ns] at h; exact SeqAt.EqAt.none_str y u _ _ _ _ h
      · rw [key_nn] at h; exact SeqAt.EqAt.same .none _ _ _ _ h
  «strs» := fun k x t v h => by
    rcases keyIs_shape h with ⟨i, u, rfl, e⟩ | ⟨y, u, rfl, e⟩ | ⟨rfl, e⟩
    · exact nomatch e
    · injection e with e1 _
      subst e1
      cases v <;> rfl
    · exact nomatch e
end L2
namespace L2
open PySem PySem.Spec PyProof.Rows
inductive V where
  | non | bl (b : Bool) | int (i : Int) | str (x : Str) | byt (b : Array UInt8) | flt (b : UInt64) | ref (a : Addr) | ty (n : String)
  deriving DecidableEq
def RelV : V → Value → Prop
  | .non, u => u = Value.none
  | .bl b, u => u = Value.bool b
  | .int i, u => ∃ t, u = Value.int i t
  | .str x, u => ∃ t, u = Value.str x t
  | .byt b, u => ∃ t, u = Value.bytes b t
  | .flt b, u => ∃ t, u = Value.float b t
  | .ref a, u => u = Value.ref a
  | .ty n, u => u = Value.type n
abbrev Vals : List V → List Value → Prop := Paired RelV
theorem Vals.length {xs : List V} {us : List Value} (r : Vals xs us) : xs.length = us.length := Paired.length r
theorem Vals.get : ∀ {xs : List V} {us : List Value} {i : Nat} {x : V}, Vals xs us → xs[i]? = some x → ∃ u, us[i]? = some u ∧ RelV x u
  | _, _, _, _, .nil, e => by simp at e
  | _, _, 0, _, .cons r _, e => by simp at e; subst e; exact ⟨_, rfl, r⟩
  | _, _, i + 1, x, .cons _ t, e => by
    obtain ⟨u, h1, h2⟩ := Vals.get (i := i) (x := x) t (by simpa using e)
    exact ⟨u, by simpa using h1, h2⟩
theorem Vals.set {x : V} {u : Value} (r : RelV x u) : ∀ {xs : List V} {us : List Value} (i : Nat), Vals xs us → Vals (xs.set i x) (us.set i u)
  | _, _, _, .nil => .nil
  | _, _, 0, .cons _ t => .cons r t
  | _, _, i + 1, .cons q t => .cons q (Vals.set r i t)
theorem Vals.append : ∀ {xs ys : List V} {us ws : List Value}, Vals xs us → Vals ys ws → Vals (xs ++ ys) (us ++ ws)
  | _, _, _, _, .nil, s => s
  | _, _, _, _, .cons r t, s => .cons r (Vals.append t s)
theorem Vals.take : ∀ {xs : List V} {us : List Value} (n : Nat), Vals xs us → Vals (xs.take n) (us.take n)
  | _, _, 0, _ => .nil
  | _, _, _ + 1, .nil => .nil
  | _, _, n + 1, .cons r t => .cons r (Vals.take n t)
theorem Vals.drop : ∀ {xs : List V} {us : List Value} (n : Nat), Vals xs us → Vals (xs.drop n) (us.drop n)
  | _, _, 0, r => r
  | _, _, _ + 1, .nil => .nil
  | _, _, n + 1, .cons _ t => Vals.drop n t
def RelO : Option V → Option Value → Prop
  | some v, some u => RelV v u
  | none, none => True
  | _, _ => False
def KV {κ : Type} : List (κ × V) → List (κ × Value) → Prop := Paired fun (p : κ × V) (q : κ × Value) => p.1 = q.1 ∧ RelV p.2 q.2
def kV : Key → V
  | .inl i => .int i
  | .inr (some x) => .str x
  | .inr none => .non
inductive HO where
  | lst (xs : List V)
  | tup (xs : List V)
  | dK (kvs : List (Key × V)) | dT (kvs : List (List Key × V))
  | set (S : Int → Bool) (n : Nat)
  | ins (C dx : Addr) (fs : List (Str × V))
  | own (x : Addr)
  | xd (fs : List (Str × V))
  | met (f x : Addr)
  | rng (lo hi : Int)
  | frz (o : Obj) (u : HO)
  | tbl (ps : Array Value)
  | ext (φ : Heap → Prop)
abbrev Hp := Addr → Option HO
def upd (H : Hp) (a : Addr) (o : HO) : Hp := fun b => if b = a then some o else H b
theorem upd_same {H : Hp} {a : Addr} {o : HO} : upd H a o a = some o := by unfold upd; rw [if_pos rfl]
theorem upd_ne {H : Hp} {a b : Addr} {o : HO} (h : b ≠ a) : upd H a o b = H b := by unfold upd; rw [if_neg h]
theorem ne_of_none {H : Hp} {a b : Addr} {o : HO} (h : H a = some o) (h' : H b = none) : a ≠ b := by
  intro e; subst e; rw [h] at h'; cases h'
def TupN (h : Heap) (a : Addr) (its : Array Value) : Prop := ∃ o, h.get? a = some o ∧ o.dict = none ∧ o.cls = .type "tuple" ∧ ∃ n, o.data = .seq its n
theorem TupN.is {h : Heap} {a : Addr} {its : Array Value} (p : TupN h a its) : IsTup h a its := by
  obtain ⟨o, e, _, c, n, d⟩ := p
  exact ⟨o, e, c, n, d⟩
theorem TupN.new (h : Heap) (its : Array Value) : TupN (h.push { cls := .type "tuple", data := .seq its }) h.objs.size its := ⟨_, Heap.get?_push_size _ rfl, rfl, rfl, _, rfl⟩
section
variable (P : Program) (w : World)
def ObjOk (H : Hp) (h : Heap) (a : Addr) : HO → Prop
  | .lst xs => xs.length ≤ sizeLine ∧ ∃ (its : List Value) (n : Nat), Vals xs its ∧ h.get? a = some { cls := .type "list", data := .seq its.toArray n }
  | .tup xs => xs.length ≤ sizeLine ∧ ∃ its : List Value, Vals xs its ∧ TupN h a its.toArray
  | .dK kvs => kvs.length ≤ sizeLine ∧ (a == sysModules) = false ∧ ∃ vs, KV kvs vs ∧ h.DictOf (mixKind P w) a vs
  | .dT kvs => kvs.length ≤ sizeLine ∧ (a == sysModules) = false ∧ ∃ xs : List (List Key × Addr × Value),
      Paired (fun (p : List Key × V) (q : List Key × Addr × Value) => p.1 = q.1 ∧ H q.2.1 = some (.tup (p.1.map kV)) ∧ RelV p.2 q.2.2) kvs xs ∧
      ∃ o es ep, h.get? a = some o ∧ o.ExactDict ∧ o.data = .dict es ep ∧ es.toList = xs.map (entryOfKey (tupleKind (mixKind P w))) ∧ (xs.map (·.1)).Nodup
  | .set S n => h.SetOf (intKind P w) a S n
  | .ins C dx fs => H dx = some (.own a) ∧ fs.length ≤ 1000 ∧ dx ≠ a ∧ h.get? a = some (PySem.W.instObj C dx) ∧
      ∃ mA, h.Ns1 dx mA ∧ (∀ f, RelO (fs.lookup f) (mA f)) ∧ PySem.Within mA (fs.map (·.1))
  | .own _ => ∃ o, h.get? a = some o
  | .xd fs => ∃ mA, h.Ns1 a mA ∧ ∀ f, RelO (fs.lookup f) (mA f)
  | .rng lo hi => ∃ t u v, h.get? a = some { cls := .type "range", data := .fields #[.int lo t, .int hi u, .int 1 v] }
  | .frz o u => h.get? a = some o ∧ ObjOk H h a u
  | .tbl ps => h.get? a = some { cls := .none, data := .fields ps }
  | .met f x => h.get? a = some (PySem.W.methodObj (.ref f) (.ref x))
  | .ext φ => φ h ∧ (∃ o, h.get? a = some o) ∧ ∀ h1 h2 : Heap, φ h1 → (∀ o, h1.get? a = some o → h2.get? a = some o) → φ h2
def HOk (H : Hp) (h : Heap) : Prop := ∀ a o, H a = some o → ObjOk P w H h a o
end
section
variable {P : Program} {w : World} {H H' : Hp} {h h' : Heap} {a : Addr} {o : HO}
theorem ObjOk.lt (x : ObjOk P w H h a o) : a < h.objs.size := by
  cases o with
  | lst xs => obtain ⟨_, _, _, _, e⟩ := x; exact Heap.lt_size e
  | tup xs => obtain ⟨_, _, _, p⟩ := x; exact p.is.lt
  | dK kvs => obtain ⟨_, _, _, _, o, _, _, e, _⟩ := x; exact Heap.lt_size e
  | dT kvs => obtain ⟨_, _, _, _, o, _, _, e, _⟩ := x; exact Heap.lt_size e
  | set S n => obtain ⟨o, _, _, _, e, _⟩ := x; exact Heap.lt_size e
  | ins C dx fs => obtain ⟨_, _, _, e, _⟩ := x; exact Heap.lt_size e
  | own y => obtain ⟨_, e⟩ := x; exact Heap.lt_size e
  | xd fs => obtain ⟨_, ⟨_, _, _, e, _⟩, _⟩ := x; exact Heap.lt_size e
  | rng lo hi => obtain ⟨_, _, _, e⟩ := x; exact Heap.lt_size e
  | frz ob u => obtain ⟨e, _⟩ := x; exact Heap.lt_size e
  | tbl ps => exact Heap.lt_size (show h.get? a = some _ from x)
  | met f y => exact Heap.lt_size (show h.get? a = some _ from x)
  | ext φ => obtain ⟨_, ⟨_, e⟩, _⟩ := x; exact Heap.lt_size e
theorem Paired.mapP {α β : Type} {F G : α → β → Prop} : ∀ {l₁ : List α} {l₂ : List β}, Paired F l₁ l₂ → (∀ a b, F a b → G a b) → Paired G l₁ l₂
  | _, _, .nil, _ => .nil
  | _, _, .cons r t, f => .cons (f _ _ r) (Paired.mapP t f)
theorem ObjOk.stay (x : ObjOk P w H h a o) (k : ∀ b u, (b = a ∨ H b = some (.own a)) → h.get? b = some u → h'.get? b = some u)
    (ho : ∀ b, H b = some (.own a) → H' b = some (.own a)) (ht : ∀ b xs, H b = some (.tup xs) → H' b = some (.tup xs)) : ObjOk P w H' h' a o := by
  induction o with
  | lst xs => obtain ⟨z, its, n, r, e⟩ := x; exact ⟨z, its, n, r, k _ _ (.inl rfl) e⟩
  | tup xs => obtain ⟨z, its, r, ob, e, c⟩ := x; exact ⟨z, its, r, ob, k _ _ (.inl rfl) e, c⟩
  | dK kvs => obtain ⟨z, y, vs, r, ob, es, ep, e, c⟩ := x; exact ⟨z, y, vs, r, ob, es, ep, k _ _ (.inl rfl) e, c⟩
  | dT kvs =>
    obtain ⟨z, y, xs, r, ob, es, ep, e, c⟩ := x
    exact ⟨z, y, xs, Paired.mapP r fun p q z => ⟨z.1, ht _ _ z.2.1, z.2.2⟩, ob, es, ep, k _ _ (.inl rfl) e, c⟩
  | set S n => obtain ⟨ob, es, ep, t, e, c⟩ := x; exact ⟨ob, es, ep, t, k _ _ (.inl rfl) e, c⟩
  | ins C dx fs =>
    obtain ⟨d, z, ne, e, mA, ⟨od, es, ep, e2, c⟩, r⟩ := x
    exact ⟨ho _ d, z, ne, k _ _ (.inl rfl) e, mA, ⟨od, es, ep, k _ _ (.inr d) e2, c⟩, r⟩
  | own y => obtain ⟨ob, e⟩ := x; exact ⟨ob, k _ _ (.inl rfl) e⟩
  | xd fs => obtain ⟨mA, ⟨od, es, ep, e, c⟩, r⟩ := x; exact ⟨mA, ⟨od, es, ep, k _ _ (.inl rfl) e, c⟩, r⟩
  | rng lo hi => obtain ⟨t, u, v, e⟩ := x; exact ⟨t, u, v, k _ _ (.inl rfl) e⟩
  | frz ob u ih => obtain ⟨e, q⟩ := x; exact ⟨k _ _ (.inl rfl) e, ih q⟩
  | tbl ps =>
    have e : h.get? a = some { cls := .none, data := .fields ps } := x
    show h'.get? a = some { cls := .none, data := .fields ps }
    exact k a _ (.inl rfl) e
  | met f y =>
    have e : h.get? a = some (PySem.W.methodObj (.ref f) (.ref y)) := x
    show h'.get? a = some (PySem.W.methodObj (.ref f) (.ref y))
    exact k a _ (.inl rfl) e
  | ext φ => obtain ⟨p, ⟨o, e⟩, st⟩ := x; exact ⟨st _ _ p fun o q => k _ _ (.inl rfl) q, ⟨o, k _ _ (.inl rfl) e⟩, st⟩
theorem HOk.lt (x : HOk P w H h) (e : H a = some o) : a < h.objs.size := (x a o e).lt
theorem HOk.fresh (x : HOk P w H h) (e : h.objs.size ≤ a) : H a = none := by
  cases q : H a with
  | none => rfl
  | some u => exact absurd (Nat.lt_of_lt_of_le (x.lt q) e) (Nat.lt_irrefl _)
theorem HOk.kept (x : HOk P w H h) (k : ∀ b u, h.get? b = some u → h'.get? b = some u) : HOk P w H h' := fun a o e =>
  (x a o e).stay (fun b u _ q => k b u q) (fun _ q => q) fun _ _ q => q
theorem HOk.laid (x : HOk P w H h) (k : ∀ b u, h.get? b = some u → h'.get? b = some u) (hp : h.objs.size ≤ a) (new : ObjOk P w (upd H a o) h' a o) : HOk P w (upd H a o) h' := fun b u e => by
  have hn := x.fresh hp
  by_cases hb : b = a
  · subst hb; rw [upd_same] at e; cases e; exact new
  · rw [upd_ne hb] at e
    exact (x b u e).stay (fun c v _ q => k c v q) (fun c q => by rw [upd_ne (ne_of_none q hn)]; exact q) fun c xs q => by rw [upd_ne (ne_of_none q hn)]; exact q
end
def Rd (H : Hp) (a : Addr) (u : HO) : Prop := H a = some u ∨ ∃ o, H a = some (.frz o u)
theorem Rd.of {H : Hp} {a : Addr} {u : HO} (h : H a = some u) : Rd H a u := .inl h
theorem Rd.ok {P : Program} {w : World} {H : Hp} {h : Heap} {a : Addr} {u : HO} (r : Rd H a u) (x : HOk P w H h) : ObjOk P w H h a u := by
  rcases r with r | ⟨o, r⟩
  · exact x a u r
  · obtain ⟨_, q⟩ := x a _ r
    exact q
def Mut : Option HO → Prop
  | some (.lst _) => True
  | some (.dK _) => True
  | some (.dT _) => True
  | some (.set _ _) => True
  | some (.ins _ _ _) => True
  | some (.ext _) => True
  | _ => False
section
variable {P : Program} {w : World} {H : Hp} {h h' : Heap} {x e : Addr} {o' : HO}
theorem HOk.write (ok : HOk P w H h) (mu : Mut (H x)) (he : e = x ∨ H e = some (.own x)) (k : ∀ b u, b ≠ e → h.get? b = some u → h'.get? b = some u) (heo : ∃ u, h'.get? e = some u)
    (new : ObjOk P w (upd H x o') h' x o') : HOk P w (upd H x o') h' := fun b u q => by
  have nown : ∀ c y, H c = some (.own y) → c ≠ x := fun c y r z => by subst z; rw [r] at mu; exact mu
  have ntup : ∀ c xs, H c = some (.tup xs) → c ≠ x := fun c xs r z => by subst z; rw [r] at mu; exact mu
  by_cases hb : b = x
  · subst hb; rw [upd_same] at q; cases q; exact new
  · rw [upd_ne hb] at q
    by_cases hbe : b = e
    · have q' : H b = some (.own x) := by
        rcases he with z | z
        · exact absurd (hbe.trans z) hb
        · rw [hbe]; exact z
      rw [q] at q'; cases q'
      obtain ⟨v, hv⟩ := heo
      exact ⟨v, by rw [hbe]; exact hv⟩
    · refine (ok b u q).stay (fun c v hc r => k c v ?_ r) (fun c r => by rw [upd_ne (nown c b r)]; exact r) fun c xs r => by rw [upd_ne (ntup c xs r)]; exact r
      rcases hc with rfl | hc
      · exact hbe
      · rintro rfl
        rcases he with z | z
        · exact nown c b hc z
        · rw [hc] at z; cases z; exact hb rfl
end
structure Un (fs ex : List Addr) (H H' : Hp) (h h' : Heap) : Prop where
  keep : ∀ b o, h.get? b = some o → H b = none → b ∉ fs → b ∉ ex → h'.get? b = some o
  slot : ∀ b o, h.get? b = some o → H b = none → b ∈ fs → b ∉ ex → ∃ sl, h'.get? b = some { o with slots := sl }
  free : ∀ b o, h.get? b = some o → H b = none → b ∉ ex → H' b = none
  there : ∀ b o, h.get? b = some o → b ∉ ex → ∃ o', h'.get? b = some o'
  tups : ∀ b xs, H b = some (.tup xs) → H' b = some (.tup xs)
  frzs : ∀ b o u, H b = some (.frz o u) → H' b = some (.frz o u)
  tbls : ∀ b ps, H b = some (.tbl ps) → ∃ more, H' b = some (.tbl (ps ++ more))
section
variable {fs fs' ex ex' : List Addr} {H H1 H2 : Hp} {h h1 h2 h' : Heap} {a x e : Addr} {o : HO}
theorem Un.any (u : Un fs ex H H1 h h1) {b : Addr} {ob : Obj} (q : h.get? b = some ob) (n : H b = none) (hx : b ∉ ex) : ∃ sl, h1.get? b = some { ob with slots := sl } := by
  by_cases hb : b ∈ fs
  · exact u.slot b ob q n hb hx
  · exact ⟨ob.slots, u.keep b ob q n hb hx⟩
theorem Un.trans (a : Un fs ex H H1 h h1) (b : Un fs ex H1 H2 h1 h2) : Un fs ex H H2 h h2 where
  keep := fun c ob q n hc hx => b.keep c ob (a.keep c ob q n hc hx) (a.free c ob q n hx) hc hx
  slot := fun c ob q n hc hx => by
    obtain ⟨sl, e1⟩ := a.slot c ob q n hc hx
    obtain ⟨sl', e2⟩ := b.slot c _ e1 (a.free c ob q n hx) hc hx
    exact ⟨sl', e2⟩
  free := fun c ob q n hx => by
    obtain ⟨o', e1⟩ := a.there c ob q hx
    exact b.free c o' e1 (a.free c ob q n hx) hx
  there := fun c ob q hx => by
    obtain ⟨o', e1⟩ := a.there c ob q hx
    exact b.there c o' e1 hx
  tups := fun c xs q => b.tups c xs (a.tups c xs q)
  frzs := fun c ob xs q => b.frzs c ob xs (a.frzs c ob xs q)
  tbls := fun c ps q => by
    obtain ⟨m1, e1⟩ := a.tbls c ps q
    obtain ⟨m2, e2⟩ := b.tbls c _ e1
    exact ⟨m1 ++ m2, by rw [e2, Array.append_assoc]⟩
theorem Un.kept (k : ∀ b u, h.get? b = some u → h'.get? b = some u) : Un fs ex H H h h' :=
  ⟨fun b ob q _ _ _ => k b ob q, fun b ob q _ _ _ => ⟨ob.slots, k b ob q⟩, fun _ _ _ n _ => n, fun b ob q _ => ⟨ob, k b ob q⟩, fun _ _ q => q, fun _ _ _ q => q, fun _ ps q => ⟨#[], by rw [q]; simp⟩⟩
theorem Un.refl : Un fs ex H H h h := Un.kept fun _ _ q => q
theorem Un.laid (k : ∀ b u, h.get? b = some u → h'.get? b = some u) (hp : h.objs.size ≤ a) (hn : H a = none) : Un fs ex H (upd H a o) h h' where
  keep := fun b u q _ _ _ => k b u q
  slot := fun b u q _ _ _ => ⟨u.slots, k b u q⟩
  free := fun b u q n _ => by rw [upd_ne (Nat.ne_of_lt (Nat.lt_of_lt_of_le (Heap.lt_size q) hp))]; exact n
  there := fun b u q _ => ⟨u, k b u q⟩
  tups := fun b xs q => by rw [upd_ne (ne_of_none q hn)]; exact q
  frzs := fun b u xs q => by rw [upd_ne (ne_of_none q hn)]; exact q
  tbls := fun b ps q => ⟨#[], by rw [upd_ne (ne_of_none q hn), q]; simp⟩
theorem Un.write (mu : Mut (H x)) (he : e = x ∨ H e = some (.own x)) (k : ∀ b u, b ≠ e → h.get? b = some u → h'.get? b = some u) (heo : ∃ u, h'.get? e = some u) : Un fs ex H (upd H x o) h h' := by
  have hx : ∀ b, H b = none → b ≠ x := fun b n z => by subst z; rw [n] at mu; exact mu
  have hb : ∀ b, H b = none → b ≠ e := fun b n z => by
    subst z
    rcases he with r | r
    · exact hx b n r
    · rw [n] at r; cases r
  have hm : ∀ b u, H b = some u → ¬ Mut (some u) → b ≠ x := fun b u q nm z => by subst z; rw [q] at mu; exact nm mu
  refine ⟨fun b u q n _ _ => k b u (hb b n) q, fun b u q n _ _ => ⟨u.slots, k b u (hb b n) q⟩, fun b u q n _ => by rw [upd_ne (hx b n)]; exact n, fun b u q _ => ?_,
    fun b xs q => by rw [upd_ne (hm b _ q fun z => z)]; exact q, fun b u xs q => by rw [upd_ne (hm b _ q fun z => z)]; exact q, fun b ps q => ⟨#[], by rw [upd_ne (hm b _ q fun z => z), q]; simp⟩⟩
  by_cases hbe : b = e
  · subst hbe; exact heo
  · exact ⟨u, k b u hbe q⟩
theorem Un.mono (u : Un fs ex H H1 h h1) (hs : ∀ b ∈ fs, b ∈ fs') (hx : ∀ b ∈ ex, b ∈ ex') : Un fs' ex' H H1 h h1 :=
  ⟨fun b ob q n hb he => u.keep b ob q n (fun z => hb (hs b z)) fun z => he (hx b z), fun _ _ q n _ he => u.any q n fun z => he (hx _ z), fun b ob q n he => u.free b ob q n fun z => he (hx b z), fun b ob q he => u.there b ob q fun z => he (hx b z), u.tups, u.frzs, u.tbls⟩
end
def trk (h : Heap) (H : Hp) : List Addr := (List.range h.objs.size).filter fun a => (H a).isSome
def hidT (h : Heap) (H : Hp) : Heap := PySem.W.hideAll h (trk h H)
theorem hidT_size (h : Heap) (H : Hp) : (hidT h H).objs.size = h.objs.size := PySem.W.hideAll_size _ _
theorem hidT_get {h : Heap} {H : Hp} {b : Addr} {o : Obj} (e : h.get? b = some o) (n : H b = none) : (hidT h H).get? b = some o :=
  PySem.W.hideAll_get _ e fun hm => by
    have q : (H b).isSome = true := (List.mem_filter.mp hm).2
    rw [n] at q; simp at q
theorem of_hidT {h : Heap} {H : Hp} {b : Addr} {o : Obj} (e : (hidT h H).get? b = some o) : h.get? b = some o ∧ H b = none := by
  have e' : h.get? b = some o := PySem.W.of_hideAll (trk h H) e
  refine ⟨e', ?_⟩
  cases q : H b with
  | none => rfl
  | some x =>
    have hm : b ∈ trk h H := List.mem_filter.mpr ⟨List.mem_range.mpr (Heap.lt_size e'), by simp [q]⟩
    have z : (hidT h H).get? b = none := PySem.W.hideAll_none (trk h H) hm
    rw [z] at e; cases e
def allNews (g h : Heap) (L : Addr) : List (Addr × Obj) := (List.range h.objs.size).filterMap fun a => if a = L ∨ (g.get? a).isSome = true then none else (h.get? a).map fun o => (a, o)
def rest (g h : Heap) (L d : Addr) : List (Addr × Obj) := (allNews g h L).filter fun p => decide (p.1 ≠ d)
end L2
namespace L2
open PySem PySem.Spec PyProof.Rows
structure Mod (K : PySem.W.Frag) (mg : Str → Option Value) (base : Heap) : Prop where
  kin : K.In base
  glob : base.Ns mainGlobals mg
  blt : ∃ mb, base.Ns builtinsNs mb ∧ ∀ x : Str, x ≠ "__name__" → mb x = bootBuiltins x
  nolimit : base.NoLimit
structure Cx where
  prog : Program
  w : World
  K : PySem.W.Frag
  mg : Str → Option Value
  base : Heap
  A : Around
  N : List Str
  s_0 : Shared
  H_0 : Hp
  env : Env
  outer : List Env
  stack : List Env
  ex : List Addr
  fn : Str → Bool
  calm : Bool
  pn : List (Addr × Obj)
  xe : Value → Shared → Prop
def frs (l : List Env) : List Addr := l.filterMap (·.frame)
abbrev Cx.fs (X : Cx) : List Addr := frs X.outer
def Vis (sc : Scope) (x : Str) : Prop := sc.names.lookup x = some .local ∨ sc.names.lookup x = some .cell ∨ sc.names.lookup x = some .free
def Loc (sc : Scope) (x : Str) : Prop := sc.names.lookup x = some .local ∨ sc.names.lookup x = some .cell
def Look (env : Env) (h : Heap) (m : Str → Option Value) (x : Str) (u : Value) : Prop :=
  (env.kindOf x = some .local ∧ m x = some u) ∨ ((env.kindOf x = some .cell ∨ env.kindOf x = some .free) ∧ ∃ c, env.cells.lookup x = some c ∧ h.IsCell c (some u))
structure Cx.Ok (X : Cx) : Prop where
  mod : Mod X.K X.mg X.base
  kind : X.env.scope.kind = .function
  glob : X.env.globals = mainGlobals
  blt : X.env.builtins = builtinsNs
  above : X.s_0.heap.objs.size ≤ X.env.locals
  inj : ∀ x y c, X.env.cells.lookup x = some c → X.env.cells.lookup y = some c → x = y
  has : ∀ x, (X.env.kindOf x = some .cell ∨ X.env.kindOf x = some .free) → ∃ c, X.env.cells.lookup x = some c
  cab : ∀ x c, X.fn x = true → X.env.cells.lookup x = some c → X.s_0.heap.objs.size ≤ c
  hd : X.calm = true → X.A.handled = none
  frames : X.A.frames = some X.stack
  stk : X.stack = X.outer ∨ (X.stack = X.env :: X.outer ∧ X.env.frame = some X.env.locals)
  exf : ∀ b ∈ X.ex, b ≠ X.env.locals ∧ ∀ x c, X.env.cells.lookup x = some c → c ≠ b
  bs : ∀ b o, X.base.get? b = some o → X.s_0.heap.get? b = some o ∧ X.H_0 b = none
  bsz : X.base.objs.size ≤ X.s_0.heap.objs.size
  noex : ∀ b o, X.base.get? b = some o → b ∉ X.ex
  exfs : ∀ b ∈ X.ex, b ∉ X.fs
  funs : X.s_0.heap.FunFrames X.base X.outer
  frf : ∀ b ∈ X.fs, X.H_0 b = none
structure Inv (X : Cx) (pins : List (Addr × Obj)) (σ : List (Option V)) (H : Hp) (s : Shared) : Prop where
  ok : X.Ok
  os : s.os = X.s_0.os
  bare : AllBare s.gens
  base : Un X.fs X.ex X.H_0 H X.s_0.heap s.heap
  loc : ∃ m, s.heap.Ns X.env.locals m ∧ ∀ (i : Nat) (x : Str) (v : V), X.N[i]? = some x → σ[i]? = some (some v) → Vis X.env.scope x → ∃ u, RelV v u ∧ Look X.env s.heap m x u
  cell : ∀ x c, X.env.cells.lookup x = some c → ∃ v, s.heap.IsCell c v
  free : H X.env.locals = none
  freeC : ∀ x c, X.env.cells.lookup x = some c → H c = none
  pin : ∀ p ∈ X.pn ++ pins, s.heap.get? p.1 = some p.2 ∧ H p.1 = none ∧ p.1 ≠ X.env.locals ∧ p.1 ∉ X.fs ∧ ∀ v, p.2.data ≠ .cell v
  hok : HOk X.prog X.w H s.heap
  len : σ.length = X.N.length
section
variable {X : Cx} {pins : List (Addr × Obj)} {σ : List (Option V)} {H H' : Hp} {s : Shared} {h' : Heap}
theorem Cx.Ok.nofr (ok : X.Ok) {b : Addr} {o : Obj} (e : X.base.get? b = some o) : b ∉ X.fs := fun hb => by
  have := (ok.funs.mem hb).1
  rw [e] at this; cases this
theorem Inv.bs (I : Inv X pins σ H s) : ∀ b o, X.base.get? b = some o → s.heap.get? b = some o ∧ H b = none := fun b o e =>
  ⟨I.base.keep b o (I.ok.bs b o e).1 (I.ok.bs b o e).2 (I.ok.nofr e) (I.ok.noex b o e), I.base.free b o (I.ok.bs b o e).1 (I.ok.bs b o e).2 (I.ok.noex b o e)⟩
theorem Inv.bk (I : Inv X pins σ H s) : ∀ b o, X.base.get? b = some o → s.heap.get? b = some o := fun b o e => (I.bs b o e).1
theorem Inv.mod (I : Inv X pins σ H s) : Mod X.K X.mg X.base := I.ok.mod
theorem Inv.kIn (I : Inv X pins σ H s) : X.K.In s.heap := I.ok.mod.kin.keeps I.bk
theorem Inv.nolimit (I : Inv X pins σ H s) : s.heap.NoLimit := I.ok.mod.nolimit.keeps I.bk
theorem Inv.fr (I : Inv X pins σ H s) : ∃ m, Fr X.base X.env.locals s.heap m :=
  let ⟨m, hn, _⟩ := I.loc
  ⟨m, hn, I.bk, Nat.le_trans I.ok.bsz I.ok.above⟩
theorem Inv.lt (I : Inv X pins σ H s) : X.env.locals < s.heap.objs.size := let ⟨_, hn, _⟩ := I.loc; hn.lt
theorem Inv.sz (I : Inv X pins σ H s) : X.s_0.heap.objs.size ≤ s.heap.objs.size := Nat.le_trans I.ok.above (Nat.le_of_lt I.lt)
theorem Inv.nofs (I : Inv X pins σ H s) {a : Addr} (h : s.heap.objs.size ≤ a) : a ∉ X.fs := fun hb => by
  obtain ⟨_, o, ho, _⟩ := I.ok.funs.mem hb
  exact absurd (Nat.lt_of_lt_of_le (Heap.lt_size ho) (Nat.le_trans I.sz h)) (Nat.lt_irrefl _)
theorem Inv.cne (I : Inv X pins σ H s) : ∀ x c, X.env.cells.lookup x = some c → c ≠ X.env.locals := fun x c e z => by
  obtain ⟨v, o, ho, hd⟩ := I.cell x c e
  obtain ⟨m, ⟨o', es, ep, ho', hd', _⟩, _⟩ := I.loc
  rw [z, ho'] at ho; cases ho; rw [hd'] at hd; cases hd
theorem Inv.funs (I : Inv X pins σ H s) : s.heap.FunFrames X.base X.outer := by
  have all : ∀ (l : List Env), (∀ b ∈ frs l, b ∈ X.fs) → X.s_0.heap.FunFrames X.base l → s.heap.FunFrames X.base l := by
    intro l
    induction l with
    | nil => intro _ _; trivial
    | cons env r ih =>
      intro hs hl
      obtain ⟨hk, ⟨L, o, hf, hn, ho, hd⟩, hr⟩ := hl
      have hL : L ∈ X.fs := hs L (by unfold frs; rw [List.filterMap_cons, hf]; exact List.mem_cons_self)
      obtain ⟨sl, e⟩ := I.base.slot L o ho (I.ok.frf L hL) hL fun z => I.ok.exfs L z hL
      exact ⟨hk, ⟨L, _, hf, hn, e, hd⟩, ih (fun b hb => hs b (by unfold frs; rw [List.filterMap_cons, hf]; exact List.mem_cons_of_mem _ hb)) hr⟩
  exact all X.outer (fun _ hb => hb) I.ok.funs
theorem Inv.stack (I : Inv X pins σ H s) : s.heap.FunFrames X.base X.stack := by
  rcases I.ok.stk with e | ⟨e, hf⟩
  · rw [e]; exact I.funs
  · rw [e]
    obtain ⟨m, hn, _⟩ := I.loc
    refine .cons (by rw [I.ok.kind]; decide) hf hn ?_ I.funs
    exact Heap.get?_none_of_le (Nat.le_trans I.ok.bsz I.ok.above)
theorem Inv.stkSub (I : Inv X pins σ H s) : ∀ b ∈ frs X.stack, b ∈ X.env.locals :: X.fs := fun b hb => by
  rcases I.ok.stk with e | ⟨e, hf⟩
  · rw [e] at hb; exact List.mem_cons_of_mem _ hb
  · rw [e] at hb
    unfold frs at hb
    rw [List.filterMap_cons, hf] at hb
    exact hb
theorem Inv.stkFree (I : Inv X pins σ H s) : ∀ b ∈ frs X.stack, H b = none := fun b hb => by
  rcases List.mem_cons.mp (I.stkSub b hb) with e | hb
  · rw [e]; exact I.free
  · obtain ⟨_, o, ho, _⟩ := I.ok.funs.mem hb
    exact I.base.free b o ho (I.ok.frf b hb) fun z => I.ok.exfs b z hb
theorem Inv.step {g' : Array GenState} {t' : Nat} {d' : Drawn} {ch : List Addr} (I : Inv X pins σ H s)
    (hch : ∀ b ∈ ch, (b ∈ X.ex ∨ X.s_0.heap.objs.size ≤ b) ∧ b ≠ X.env.locals ∧ (∀ x c, X.env.cells.lookup x = some c → c ≠ b) ∧ ∀ p ∈ X.pn ++ pins, p.1 ≠ b)
    (keep : ∀ b o, b ≠ X.env.locals → b ∉ X.fs → b ∉ ch → s.heap.get? b = some o → H b = none → h'.get? b = some o)
    (slot : ∀ b o, b ≠ X.env.locals → b ∈ X.fs → b ∉ ch → s.heap.get? b = some o → H b = none → ∃ sl, h'.get? b = some { o with slots := sl }) (free : ∀ b o, b ∉ ch → s.heap.get? b = some o → H b = none → H' b = none)
    (there : ∀ b o, b ∉ ch → s.heap.get? b = some o → ∃ o', h'.get? b = some o')
    (tups : ∀ b xs, H b = some (.tup xs) → H' b = some (.tup xs)) (frzs : ∀ b o u, H b = some (.frz o u) → H' b = some (.frz o u)) (tbls : ∀ b ps, H b = some (.tbl ps) → ∃ more, H' b = some (.tbl (ps ++ more)))
    (ns : ∀ m, s.heap.Ns X.env.locals m → h'.Ns X.env.locals m) (hok : HOk X.prog X.w H' h') (hg : AllBare g') :
    Inv X pins σ H' { s with heap := h', gens := g', drawn := d', toks := t' } := by
  have neL : ∀ b o, X.s_0.heap.get? b = some o → b ≠ X.env.locals := fun b o e => Nat.ne_of_lt (Nat.lt_of_lt_of_le (Heap.lt_size e) I.ok.above)
  have neC : ∀ b o, X.s_0.heap.get? b = some o → b ∉ X.ex → b ∉ ch := fun b o e hx hb => by
    rcases (hch b hb).1 with z | z
    · exact hx z
    · exact absurd (Nat.lt_of_lt_of_le (Heap.lt_size e) z) (Nat.lt_irrefl _)
  have cellK : ∀ x c, X.env.cells.lookup x = some c → ∀ v, s.heap.IsCell c v → h'.IsCell c v := fun x c e v ⟨o, ho, hd⟩ => by
    have nch : c ∉ ch := fun z => (hch c z).2.2.1 x c e rfl
    by_cases hc : c ∈ X.fs
    · obtain ⟨sl, q⟩ := slot c o (I.cne x c e) hc nch ho (I.freeC x c e)
      exact ⟨_, q, hd⟩
    · exact ⟨o, keep c o (I.cne x c e) hc nch ho (I.freeC x c e), hd⟩
  refine ⟨I.ok, I.os, hg, ⟨fun b o e n hb hx => ?_, fun b o e n hb hx => ?_, fun b o e n hx => ?_, fun b o e hx => ?_, fun b xs e => tups b xs (I.base.tups b xs e), fun b o xs e => frzs b o xs (I.base.frzs b o xs e), fun b ps e => ?_⟩, ?_, fun x c e => ?_, ?_, fun x c e => ?_, fun p hp => ?_, hok, I.len⟩
  · exact keep b o (neL b o e) hb (neC b o e hx) (I.base.keep b o e n hb hx) (I.base.free b o e n hx)
  · obtain ⟨sl, e1⟩ := I.base.slot b o e n hb hx
    obtain ⟨sl', e2⟩ := slot b _ (neL b o e) hb (neC b o e hx) e1 (I.base.free b o e n hx)
    exact ⟨sl', e2⟩
  · obtain ⟨o', e1⟩ := I.base.there b o e hx
    exact free b o' (neC b o e hx) e1 (I.base.free b o e n hx)
  · obtain ⟨o', e1⟩ := I.base.there b o e hx
    exact there b o' (neC b o e hx) e1
  · obtain ⟨m1, e1⟩ := I.base.tbls b ps e
    obtain ⟨m2, e2⟩ := tbls b _ e1
    exact ⟨m1 ++ m2, by rw [e2, Array.append_assoc]⟩
  · obtain ⟨m, hn, hl⟩ := I.loc
    refine ⟨m, ns m hn, fun i x v e1 e2 e3 => ?_⟩
    obtain ⟨u, r, l⟩ := hl i x v e1 e2 e3
    refine ⟨u, r, ?_⟩
    rcases l with l | ⟨k, c, e, z⟩
    · exact .inl l
    · exact .inr ⟨k, c, e, cellK x c e _ z⟩
  · obtain ⟨v, z⟩ := I.cell x c e
    exact ⟨v, cellK x c e v z⟩
  · obtain ⟨m, ⟨o, _, _, ho, _⟩, _⟩ := I.loc
    exact free _ o (fun z => (hch _ z).2.1 rfl) ho I.free
  · obtain ⟨v, o, ho, hd⟩ := I.cell x c e
    exact free c o (fun z => (hch c z).2.2.1 x c e rfl) ho (I.freeC x c e)
  · obtain ⟨e, n, ne, nf, d⟩ := I.pin p hp
    have nch : p.1 ∉ ch := fun z => (hch p.1 z).2.2.2 p hp rfl
    exact ⟨keep p.1 p.2 ne nf nch e n, free p.1 p.2 nch e n, ne, nf, d⟩
theorem Inv.un {t' : Nat} (I : Inv X pins σ H s) (u : Un X.fs [] H H' s.heap h') (hok : HOk X.prog X.w H' h') : Inv X pins σ H' { s with heap := h', toks := t' } := by
  obtain ⟨m, ⟨o, es, ep, ho, r⟩, _⟩ := id I.loc
  obtain ⟨sl, hL⟩ := u.any ho I.free (by simp)
  exact I.step (g' := s.gens) (d' := s.drawn) (ch := []) (fun _ z => nomatch z) (fun b o _ hb _ e n => u.keep b o e n hb (by simp)) (fun b o _ hb _ e n => u.slot b o e n hb (by simp)) (fun b o _ e n => u.free b o e n (by simp)) (fun b o _ e => u.there b o e (by simp)) u.tups u.frzs u.tbls (fun m' hm => by
    obtain ⟨o', es', ep', ho', r'⟩ := hm
    rw [ho] at ho'; cases ho'
    exact ⟨_, es', ep', hL, r'⟩) hok I.bare
theorem Inv.call {g' : Array GenState} {t' : Nat} {d' : Drawn} {ch : List Addr} (I : Inv X pins σ H s) (u : Un (frs X.stack) ch H H' s.heap h') (hok : HOk X.prog X.w H' h') (hg : AllBare g')
    (hch : ∀ b ∈ ch, (b ∈ X.ex ∨ X.s_0.heap.objs.size ≤ b) ∧ b ≠ X.env.locals ∧ (∀ x c, X.env.cells.lookup x = some c → c ≠ b) ∧ ∀ p ∈ X.pn ++ pins, p.1 ≠ b) :
    Inv X pins σ H' { s with heap := h', gens := g', drawn := d', toks := t' } := by
  obtain ⟨m, ⟨o, es, ep, ho, r⟩, _⟩ := id I.loc
  obtain ⟨sl, hL⟩ := u.any ho I.free fun z => (hch _ z).2.1 rfl
  exact I.step (ch := ch) hch (fun b o hL hb hc e n => u.keep b o e n (fun z => (List.mem_cons.mp (I.stkSub b z)).elim hL hb) hc) (fun b o _ _ hc e n => u.any e n hc) (fun b o hc e n => u.free b o e n hc) (fun b o hc e => u.there b o e hc) u.tups u.frzs u.tbls (fun m' hm => by
    obtain ⟨o', es', ep', ho', r'⟩ := hm
    rw [ho] at ho'; cases ho'
    exact ⟨_, es', ep', hL, r'⟩) hok hg
theorem Inv.turned {t' : Nat} {it : Addr} (I : Inv X pins σ H s) (k : ∀ b o, b ≠ it → s.heap.get? b = some o → h'.get? b = some o) (hn : H it = none) (hL : it ≠ X.env.locals)
    (h1 : it ∈ X.ex ∨ X.s_0.heap.objs.size ≤ it) (h2 : ∀ x c, X.env.cells.lookup x = some c → c ≠ it) (h3 : ∀ p ∈ X.pn ++ pins, p.1 ≠ it) : Inv X pins σ H { s with heap := h', toks := t' } := by
  have nit : ∀ b u, H b = some u → b ≠ it := fun b u e z => by rw [z, hn] at e; cases e
  refine I.step (g' := s.gens) (d' := s.drawn) (ch := [it]) (fun b hb => ?_) (fun b o _ _ hc e _ => k b o (fun z => hc (by simp [z])) e) (fun b o _ _ hc e _ => ⟨o.slots, k b o (fun z => hc (by simp [z])) e⟩) (fun _ _ _ _ n => n)
    (fun b o hc e => ⟨o, k b o (fun z => hc (by simp [z])) e⟩) (fun _ _ e => e) (fun _ _ _ e => e) (fun b ps e => ⟨#[], by rw [e]; simp⟩) (fun m hm => ?_) (fun b u e => ?_) I.bare
  · have e : b = it := by simpa using hb
    subst e
    exact ⟨h1, hL, h2, h3⟩
  · obtain ⟨o, es, ep, ho, r⟩ := hm
    exact ⟨o, es, ep, k _ o (Ne.symm hL) ho, r⟩
  · refine (I.hok b u e).stay (fun c v hc q => k c v ?_ q) (fun _ q => q) fun _ _ q => q
    rcases hc with z | z
    · rw [z]; exact nit b u e
    · exact nit c _ z
theorem Inv.tok (I : Inv X pins σ H s) (t : Nat) : Inv X pins σ H { s with toks := t } := I.un (h' := s.heap) (t' := t) Un.refl I.hok
theorem Inv.kept {t' : Nat} (I : Inv X pins σ H s) (k : ∀ b u, s.heap.get? b = some u → h'.get? b = some u) : Inv X pins σ H { s with heap := h', toks := t' } := I.un (Un.kept k) (I.hok.kept k)
theorem Inv.laid {a : Addr} {o : HO} {t' : Nat} (I : Inv X pins σ H s) (k : ∀ b u, s.heap.get? b = some u → h'.get? b = some u) (hp : s.heap.objs.size ≤ a) (new : ObjOk X.prog X.w (upd H a o) h' a o) :
    Inv X pins σ (upd H a o) { s with heap := h', toks := t' } := I.un (Un.laid k hp (I.hok.fresh hp)) (I.hok.laid k hp new)
theorem Inv.write {x e : Addr} {o : HO} {t' : Nat} (I : Inv X pins σ H s) (mu : Mut (H x)) (he : e = x ∨ H e = some (.own x)) (k : ∀ b u, b ≠ e → s.heap.get? b = some u → h'.get? b = some u) (heo : ∃ u, h'.get? e = some u)
    (new : ObjOk X.prog X.w (upd H x o) h' x o) : Inv X pins σ (upd H x o) { s with heap := h', toks := t' } := I.un (Un.write mu he k heo) (I.hok.write mu he k heo new)
theorem Inv.weak {σ' : List (Option V)} (I : Inv X pins σ H s) (hl : σ'.length = σ.length) (w : ∀ (i : Nat) v, σ'[i]? = some (some v) → σ[i]? = some (some v)) : Inv X pins σ' H s :=
  ⟨I.ok, I.os, I.bare, I.base, let ⟨m, hn, hl'⟩ := I.loc; ⟨m, hn, fun i x v e1 e2 e3 => hl' i x v e1 (w i v e2) e3⟩, I.cell, I.free, I.freeC, I.pin, I.hok, hl.trans I.len⟩
theorem Inv.pins_of {pins' : List (Addr × Obj)} (I : Inv X pins σ H s) (h : ∀ p ∈ pins', s.heap.get? p.1 = some p.2 ∧ H p.1 = none ∧ p.1 ≠ X.env.locals ∧ p.1 ∉ X.fs ∧ ∀ v, p.2.data ≠ .cell v) : Inv X pins' σ H s :=
  ⟨I.ok, I.os, I.bare, I.base, I.loc, I.cell, I.free, I.freeC, fun p hp => (List.mem_append.mp hp).elim (fun z => I.pin p (List.mem_append_left _ z)) (h p), I.hok, I.len⟩
theorem nodup_ix {N : List Str} (hN : N.Nodup) {i j : Nat} {x : Str} (a : N[i]? = some x) (b : N[j]? = some x) : i = j := by
  obtain ⟨h1, e1⟩ := List.getElem?_eq_some_iff.mp a
  obtain ⟨h2, e2⟩ := List.getElem?_eq_some_iff.mp b
  exact (List.getElem_inj hN).mp (e1.trans e2.symm)
theorem store_ok2 {M : Model} {A : Around} {E : Value → Shared → Prop} {i : Nat} {x : Str} {v : V} {u : Value} {Q : Unit → Shared → Prop} (I : Inv X pins σ H s) (hN : X.N.Nodup) (hi : X.N[i]? = some x) (hx : Loc X.env.scope x) (r : RelV v u)
    (h : ∀ s', Inv X pins (σ.set i (some v)) H s' → (∃ a, Heap.SameBut a s.heap s'.heap ∧ (a = X.env.locals ∨ X.env.cells.lookup x = some a)) → Q () s') (hf : X.fn x = true ∨ X.env.scope.names.lookup x = some .local := by first | exact .inl rfl | exact .inr rfl | assumption) : wpAny M A (storeName X.env x u) Q E s := by
  obtain ⟨m, hn, hl⟩ := id I.loc
  have hcls : (X.env.scope.kind == .class || (X.env.scope.kind == .module && X.env.locals != X.env.globals)) = false := by rw [I.ok.kind]; rfl
  have hiσ : i < σ.length := by rw [I.len]; exact (List.getElem?_eq_some_iff.mp hi).1
  have cne := I.cne
  have tracked : ∀ {a : Addr} {h' : Heap}, (∃ o, s.heap.get? a = some o ∧ H a = none) → Heap.SameBut a s.heap h' → HOk X.prog X.w H h' := fun {a h'} ha hs b ob e => by
    obtain ⟨_, _, hfree⟩ := ha
    refine (I.hok b ob e).stay (fun c w' hc q => (hs.2 c ?_).trans q) (fun _ q => q) fun _ _ q => q
    rintro rfl
    rcases hc with rfl | hc
    · rw [hfree] at e; cases e
    · rw [hfree] at hc; cases hc
  rcases hx with hk | hk
  · refine wpAny_storeName_local hk hn (fun h' hn' hs => ?_) hcls
    obtain ⟨oL, _, _, hoL, _⟩ := id hn
    refine h _ ⟨I.ok, I.os, I.bare, ⟨fun b o e n hb hx => ?_, fun b o e n hb hx => ?_, I.base.free, fun b o e hx => ?_, I.base.tups, I.base.frzs, I.base.tbls⟩, ⟨_, hn', fun j y v' e1 e2 e3 => ?_⟩, fun y c e => ?_, I.free, I.freeC, fun p hp => ?_, tracked ⟨oL, hoL, I.free⟩ hs, by simpa using I.len⟩ ⟨_, hs, .inl rfl⟩
    · exact (hs.2 b (Nat.ne_of_lt (Nat.lt_of_lt_of_le (Heap.lt_size e) I.ok.above))).trans (I.base.keep b o e n hb hx)
    · obtain ⟨sl, e1⟩ := I.base.slot b o e n hb hx
      exact ⟨sl, (hs.2 b (Nat.ne_of_lt (Nat.lt_of_lt_of_le (Heap.lt_size e) I.ok.above))).trans e1⟩
    · obtain ⟨o', e1⟩ := I.base.there b o e hx
      exact ⟨o', (hs.2 b (Nat.ne_of_lt (Nat.lt_of_lt_of_le (Heap.lt_size e) I.ok.above))).trans e1⟩
    · by_cases hj : j = i
      · subst hj
        rw [hi] at e1; cases e1
        rw [List.getElem?_set_self hiσ] at e2
        cases e2
        exact ⟨u, r, .inl ⟨hk, by simp⟩⟩
      · rw [List.getElem?_set_ne (Ne.symm hj)] at e2
        obtain ⟨u', r', q⟩ := hl j y v' e1 e2 e3
        refine ⟨u', r', ?_⟩
        rcases q with ⟨k, e⟩ | ⟨k, c, e, z⟩
        · refine .inl ⟨k, ?_⟩
          have : y ≠ x := fun e => hj (nodup_ix hN e1 (e ▸ hi))
          simp [this, e]
        · exact .inr ⟨k, c, e, z.sameBut hs (cne y c e)⟩
    · obtain ⟨w', z⟩ := I.cell y c e
      exact ⟨w', z.sameBut hs (cne y c e)⟩
    · obtain ⟨e, n, ne, nf, d⟩ := I.pin p hp
      exact ⟨(hs.2 p.1 ne).trans e, n, ne, nf, d⟩
  · have hfn : X.fn x = true := by
      rcases hf with z | z
      · exact z
      · rw [z] at hk; cases hk
    obtain ⟨c, hc⟩ := I.ok.has x (.inl hk)
    obtain ⟨w', z⟩ := I.cell x c hc
    refine wpAny_storeName_cell I.ok.kind hk hc z (fun h' hc' hs => ?_)
    obtain ⟨oc, hoc, hocd⟩ := id z
    refine h { s with heap := h' } ⟨I.ok, I.os, I.bare, ⟨fun b o e n hb hx => ?_, fun b o e n hb hx => ?_, I.base.free, fun b o e hx => ?_, I.base.tups, I.base.frzs, I.base.tbls⟩, ⟨m, hn.sameBut hs (Ne.symm (cne x c hc)), fun j y v' e1 e2 e3 => ?_⟩, fun y c' e => ?_, I.free, I.freeC, fun p hp => ?_, tracked ⟨oc, hoc, I.freeC x c hc⟩ hs, by simpa using I.len⟩ ⟨c, hs, .inr hc⟩
    · exact (hs.2 b (Nat.ne_of_lt (Nat.lt_of_lt_of_le (Heap.lt_size e) (I.ok.cab x c hfn hc)))).trans (I.base.keep b o e n hb hx)
    · obtain ⟨sl, e1⟩ := I.base.slot b o e n hb hx
      exact ⟨sl, (hs.2 b (Nat.ne_of_lt (Nat.lt_of_lt_of_le (Heap.lt_size e) (I.ok.cab x c hfn hc)))).trans e1⟩
    · obtain ⟨o', e1⟩ := I.base.there b o e hx
      exact ⟨o', (hs.2 b (Nat.ne_of_lt (Nat.lt_of_lt_of_le (Heap.lt_size e) (I.ok.cab x c hfn hc)))).trans e1⟩
    · by_cases hj : j = i
      · subst hj
        rw [hi] at e1; cases e1
        rw [List.getElem?_set_self hiσ] at e2
        cases e2
        exact ⟨u, r, .inr ⟨.inl hk, c, hc, hc'⟩⟩
      · rw [List.getElem?_set_ne (Ne.symm hj)] at e2
        obtain ⟨u', r', q⟩ := hl j y v' e1 e2 e3
        refine ⟨u', r', ?_⟩
        rcases q with q | ⟨k, c', e, z'⟩
        · exact .inl q
        · refine .inr ⟨k, c', e, z'.sameBut hs ?_⟩
          rintro rfl
          exact hj (nodup_ix hN e1 (I.ok.inj _ _ _ e hc ▸ hi))
    · by_cases hcc : c' = c
      · subst hcc; exact ⟨_, hc'⟩
      · obtain ⟨w2, z2⟩ := I.cell y c' e
        exact ⟨w2, z2.sameBut hs hcc⟩
    · obtain ⟨e, n, ne, nf, d⟩ := I.pin p hp
      refine ⟨(hs.2 p.1 ?_).trans e, n, ne, nf, d⟩
      intro q
      rw [q, hoc] at e
      have q' : oc = p.2 := Option.some.inj e
      exact d w' (by rw [← q']; exact hocd)
theorem store_ok {M : Model} {A : Around} {E : Value → Shared → Prop} {i : Nat} {x : Str} {v : V} {u : Value} {Q : Unit → Shared → Prop} (I : Inv X pins σ H s) (hN : X.N.Nodup) (hi : X.N[i]? = some x) (hx : Loc X.env.scope x) (r : RelV v u)
    (h : ∀ s', Inv X pins (σ.set i (some v)) H s' → Q () s') (hf : X.fn x = true ∨ X.env.scope.names.lookup x = some .local := by first | exact .inl rfl | exact .inr rfl | assumption) : wpAny M A (storeName X.env x u) Q E s :=
  store_ok2 I hN hi hx r (fun s' I' _ => h s' I') hf
theorem Inv.call' {s' : Shared} {ch : List Addr} (I : Inv X pins σ H s) (ho : s'.os = s.os) (u : Un (frs X.stack) ch H H' s.heap s'.heap) (hok : HOk X.prog X.w H' s'.heap) (hg : AllBare s'.gens)
    (hch : ∀ b ∈ ch, (b ∈ X.ex ∨ X.s_0.heap.objs.size ≤ b) ∧ b ≠ X.env.locals ∧ (∀ x c, X.env.cells.lookup x = some c → c ≠ b) ∧ ∀ p ∈ X.pn ++ pins, p.1 ≠ b) : Inv X pins σ H' s' := by
  obtain ⟨h', g', d', t', o'⟩ := s'
  have e : o' = s.os := ho
  subst e
  exact I.call (g' := g') (t' := t') (d' := d') u hok hg hch
end
abbrev XK := Value → Option Addr → Hp → Prop
abbrev St := List (Option V)
abbrev VK := V → Hp → Prop
abbrev TE := St → Hp → VK → Prop
abbrev TT := St → Hp → (Bool → Hp → Prop) → Prop
abbrev TA := St → Hp → (List V → Hp → Prop) → Prop
structure Ends where
  nx : St → Hp → Prop
  rt : VK
  bk : St → Hp → Prop := fun _ _ => False
  ct : St → Hp → Prop := fun _ _ => False
abbrev TS := Ends → St → Hp → Prop
def EP (X : Cx) (pins : List (Addr × Obj)) (σ : St) (Q : VK) (u : Value) (s' : Shared) : Prop := ∃ v H', Inv X pins σ H' s' ∧ RelV v u ∧ Q v H'
def TP (X : Cx) (pins : List (Addr × Obj)) (σ : St) (Q : Bool → Hp → Prop) (b : Bool) (s' : Shared) : Prop := ∃ H', Inv X pins σ H' s' ∧ Q b H'
def AP (X : Cx) (pins : List (Addr × Obj)) (σ : St) (Q : List V → Hp → Prop) (us : List Value) (s' : Shared) : Prop := ∃ vs H', Inv X pins σ H' s' ∧ Vals vs us ∧ Q vs H'
def SP (X : Cx) (pins : List (Addr × Obj)) (D : Ends) (f : Flow) (s' : Shared) : Prop :=
  match f with
  | .next => ∃ σ' H', Inv X pins σ' H' s' ∧ D.nx σ' H'
  | .brk => ∃ σ' H', Inv X pins σ' H' s' ∧ D.bk σ' H'
  | .cont => ∃ σ' H', Inv X pins σ' H' s' ∧ D.ct σ' H'
  | .ret u => ∃ v σ' H', Inv X pins σ' H' s' ∧ RelV v u ∧ D.rt v H'
def PE (X : Cx) (e : Expr) (t : TE) : Prop :=
  ∀ (pins : List (Addr × Obj)) (s : Shared) (σ : St) (H : Hp) (Q : VK), Inv X pins σ H s → t σ H Q → wpAny (model X.prog X.w) X.A (eval e X.env) (EP X pins σ Q) X.xe s
def PT (X : Cx) (e : Expr) (t : TT) : Prop :=
  ∀ (pins : List (Addr × Obj)) (s : Shared) (σ : St) (H : Hp) (Q : Bool → Hp → Prop), Inv X pins σ H s → t σ H Q → wpAny (model X.prog X.w) X.A (isTrue e X.env (eval e X.env)) (TP X pins σ Q) X.xe s
def PW (X : Cx) (e : Expr) (t : TT) : Prop :=
  ∀ (whole : Sem Value) (pins : List (Addr × Obj)) (s : Shared) (σ : St) (H : Hp) (Q : Bool → Hp → Prop), Inv X pins σ H s → t σ H Q → wpAny (model X.prog X.w) X.A (isTrue e X.env whole) (TP X pins σ Q) X.xe s
theorem PW.pt {X : Cx} {e : Expr} {t : TT} (h : PW X e t) : PT X e t := h _
def PA (X : Cx) (es : List Expr) (t : TA) : Prop :=
  ∀ (pos : Pos) (pins : List (Addr × Obj)) (s : Shared) (σ : St) (H : Hp) (Q : List V → Hp → Prop), Inv X pins σ H s → t σ H Q → wpAny (model X.prog X.w) X.A (spliced (backTo pos (starEach es X.env))) (AP X pins σ Q) X.xe s
def PS (X : Cx) (st : Stmt) (t : TS) : Prop :=
  ∀ (pins : List (Addr × Obj)) (s : Shared) (σ : St) (H : Hp) (D : Ends), Inv X pins σ H s → t D σ H → wpAny (model X.prog X.w) X.A (exec st X.env) (SP X pins D) X.xe s
def PSs (X : Cx) (st : List Stmt) (t : TS) : Prop :=
  ∀ (pins : List (Addr × Obj)) (s : Shared) (σ : St) (H : Hp) (D : Ends), Inv X pins σ H s → t D σ H → wpAny (model X.prog X.w) X.A (execs st X.env) (SP X pins D) X.xe s
theorem thn {α : Type} {t : Sem α} {Q Q' : α → Shared → Prop} {M : Model} {A : Around} {E : Value → Shared → Prop} {s : Shared} (h : wpAny M A t Q E s) (hQ : ∀ a s, Q a s → Q' a s) : wpAny M A t Q' E s := wpAny_mono h hQ fun _ _ x => x
end L2
namespace L2
open PySem PySem.Spec PyProof.Rows
section
variable {X : Cx}
def tVar (i : Nat) : TE := fun σ H Q => ∃ v, σ[i]? = some (some v) ∧ Q v H
def tC (v : V) : TE := fun _ H Q => Q v H
theorem pe_var {i : Nat} {x : Str} {pos : Pos} (hN : X.N[i]? = some x) (hv : Vis X.env.scope x) (hd : (x == ("__debug__" : Str)) = false := by decide) (hcd : (x == ("__classdict__" : Str)) = false := by decide) : PE X (.Name x pos) (tVar i) := by
  intro pins s σ H Q I h
  obtain ⟨v, e, h⟩ := h
  obtain ⟨m, hn, hl⟩ := I.loc
  obtain ⟨u, r, l⟩ := hl i x v hN e hv
  have fin : EP X pins σ Q u s := ⟨v, H, I, r, h⟩
  rcases l with ⟨hk, hm⟩ | ⟨hk, c, hc, hcell⟩
  · exact wpAny_Name (wpAny_loadName_local I.ok.kind hk hn hm fin) hd
  · rcases hk with hk | hk
    · exact wpAny_Name (wpAny_loadName_cell I.ok.kind hk hc hcell fin) hd
    · exact wpAny_Name (wpAny_loadName_free I.ok.kind hk hc hcell fin hcd) hd
theorem pe_int {i j pos} : PE X (.Constant (.int i) j pos) (tC (.int i)) := fun _ _ _ H _ I h => wpAny_Constant_int ⟨.int i, H, I.tok _, ⟨_, rfl⟩, h⟩
theorem pe_bl {b j pos} : PE X (.Constant (.bool b) j pos) (tC (.bl b)) := fun _ _ _ H _ I h => Constant_bool ⟨.bl b, H, I, rfl, h⟩
theorem pe_non {j pos} : PE X (.Constant .none j pos) (tC .non) := fun _ _ _ H _ I h => Constant_none ⟨.non, H, I, rfl, h⟩
theorem pe_str {x j pos} : PE X (.Constant (.str x) j pos) (tC (.str x)) := fun _ _ _ H _ I h => Calls.Constant_str ⟨.str x, H, I.tok _, ⟨_, rfl⟩, h⟩
def Gl (X : Cx) (x : Str) : Prop := X.env.kindOf x = some .globalImplicit
theorem ld_glob {E : Value → Shared → Prop} {pins : List (Addr × Obj)} {s : Shared} {σ : St} {H : Hp} {x : Str} {u : Value} {pos : Pos} {Q : Value → Shared → Prop} (I : Inv X pins σ H s) (hg : Gl X x) (hm : X.mg x = some u) (h : Q u s)
    (hd : (x == ("__debug__" : Str)) = false := by decide) : wpAny (model X.prog X.w) X.A (eval (.Name x pos) X.env) Q E s :=
  Calls.Name_function_global I.ok.kind hg (Calls.loadGlobal_global (by rw [I.ok.glob]; exact I.mod.glob.keeps I.bk) hm h) hd
theorem ld_blt {E : Value → Shared → Prop} {pins : List (Addr × Obj)} {s : Shared} {σ : St} {H : Hp} {x : Str} {u : Value} {pos : Pos} {Q : Value → Shared → Prop} (I : Inv X pins σ H s) (hg : Gl X x) (hm : X.mg x = none) (hv : bootBuiltins x = some u) (h : Q u s)
    (hn : x ≠ "__name__" := by decide) (hd : (x == ("__debug__" : Str)) = false := by decide) : wpAny (model X.prog X.w) X.A (eval (.Name x pos) X.env) Q E s := by
  obtain ⟨mb, h1, h2⟩ := I.mod.blt
  exact Calls.Name_function_global I.ok.kind hg (Calls.loadGlobal_builtin (by rw [I.ok.glob]; exact I.mod.glob.keeps I.bk) hm (by rw [I.ok.blt]; exact h1.keeps I.bk) ((h2 x hn).trans hv) h) hd
variable {a b : Expr} {ta tb : TE} {pos : Pos}
def tB (t : TE) : TT := fun σ H Q => t σ H fun x H1 => ∃ c, x = .bl c ∧ Q c H1
theorem pt_val {e : Expr} {t : TE} (h : PE X e t) (he : ∀ whole, isTrue e X.env whole = (do let v ← whole; standAt e.pos; holding [v] (truthy v)) := by intro _; rfl) : PT X e (tB t) := by
  intro pins s σ H Q I hw
  refine isTrue_plain (thn (h pins s σ H _ I hw) fun v s1 ⟨x, H1, I1, r1, q1⟩ => ?_) (he _)
  obtain ⟨d, rfl, q⟩ := q1
  cases r1
  exact wpAny_truthy_bool ⟨H1, I1, q⟩
variable {tA tB' : TT} {rest : List Expr}
def tAnd (t u : TT) : TT := fun σ H Q => t σ H fun c H1 => if c = true then u σ H1 Q else Q false H1
def tOr (t u : TT) : TT := fun σ H Q => t σ H fun c H1 => if c = true then Q true H1 else u σ H1 Q
def tNot (t : TT) : TT := fun σ H Q => t σ H fun c H1 => Q (!c) H1
theorem pw_and1 (ha : PT X a tA) : PW X (.BoolOp .And [a] pos) tA := by
  intro wh pins s σ H Q I h
  refine isTrue_and (thn (ha pins s σ H Q I h) fun c s1 e => ?_)
  cases c with
  | true => exact isTrue_and_nil e
  | false => exact e
theorem pw_or1 (ha : PT X a tA) : PW X (.BoolOp .Or [a] pos) tA := by
  intro wh pins s σ H Q I h
  refine isTrue_or (thn (ha pins s σ H Q I h) fun c s1 e => ?_)
  cases c with
  | false => exact isTrue_or_nil e
  | true => exact e
theorem pw_and (ha : PT X a tA) (hb : PW X (.BoolOp .And (b :: rest) pos) tB') : PW X (.BoolOp .And (a :: b :: rest) pos) (tAnd tA tB') := by
  intro wh pins s σ H Q I h
  refine isTrue_and (thn (ha pins s σ H _ I h) fun c s1 ⟨H1, I1, q1⟩ => ?_)
  cases c with
  | true => exact hb wh pins s1 σ H1 Q I1 q1
  | false => exact ⟨H1, I1, q1⟩
theorem pw_or (ha : PT X a tA) (hb : PW X (.BoolOp .Or (b :: rest) pos) tB') : PW X (.BoolOp .Or (a :: b :: rest) pos) (tOr tA tB') := by
  intro wh pins s σ H Q I h
  refine isTrue_or (thn (ha pins s σ H _ I h) fun c s1 ⟨H1, I1, q1⟩ => ?_)
  cases c with
  | true => exact ⟨H1, I1, q1⟩
  | false => exact hb wh pins s1 σ H1 Q I1 q1
theorem pt_not (ha : PT X a tA) : PT X (.UnaryOp .Not a pos) (tNot tA) := by
  intro pins s σ H Q I h
  exact isTrue_not (ha pins s σ H (fun c H1 => Q (!c) H1) I h)
def tAndV (ta tb : TE) : TE := fun σ H Q => ta σ H fun x H1 => ∃ c, x = .bl c ∧ if c = true then tb σ H1 Q else Q (.bl false) H1
def tNotV (ta : TE) : TE := fun σ H Q => ta σ H fun x H1 => ∃ c, x = .bl c ∧ Q (.bl (!c)) H1
theorem pe_one {op} {t : TE} (h : PE X a t) : PE X (.BoolOp op [a] pos) t := fun pins s σ H Q I hw => BoolOp_one (h pins s σ H Q I hw)
theorem pe_and (ha : PE X a ta) (hb : PE X (.BoolOp .And (b :: rest) pos) tb) : PE X (.BoolOp .And (a :: b :: rest) pos) (tAndV ta tb) := by
  intro pins s σ H Q I h
  refine BoolOp_and (thn (ha pins s σ H _ I h) fun v s1 ⟨x, H1, I1, r1, q1⟩ => ?_)
  obtain ⟨c, rfl, q1⟩ := q1
  cases r1
  refine wpAny_truthy_bool ?_
  cases c with
  | true => exact hb pins s1 σ H1 Q I1 q1
  | false => exact ⟨.bl false, H1, I1, rfl, q1⟩
theorem pe_not (ha : PE X a ta) : PE X (.UnaryOp .Not a pos) (tNotV ta) := by
  intro pins s σ H Q I h
  refine UnaryOp_ (thn (ha pins s σ H _ I h) fun v s1 ⟨x, H1, I1, r1, q1⟩ => ?_)
  obtain ⟨c, rfl, q1⟩ := q1
  cases r1
  exact not_of (wpAny_truthy_bool ⟨.bl (!c), H1, I1, rfl, q1⟩)
def tIf (t : TT) (ta tb : TE) : TE := fun σ H Q => t σ H fun c H1 => if c = true then ta σ H1 Q else tb σ H1 Q
theorem pe_ifExp {c : Expr} (hc : PT X c tA) (ha : PE X a ta) (hb : PE X b tb) : PE X (.IfExp c a b pos) (tIf tA ta tb) := by
  intro pins s σ H Q I h
  refine wpAny_IfExp (thn (hc pins s σ H _ I h) fun d s1 ⟨H1, I1, q1⟩ => ?_)
  cases d with
  | true => exact ha pins s1 σ H1 Q I1 q1
  | false => exact hb pins s1 σ H1 Q I1 q1
end
end L2
namespace L2
open PySem PySem.Spec PyProof.Rows
def SqL (K : PySem.W.Frag) (H : Hp) (a : Addr) (xs : List V) : Prop :=
  Rd H a (.lst xs) ∨
    ∃ (o : Obj) (its : Array Value) (n : Nat), K.lookup a = some o ∧ o.cls = .type "list" ∧ o.dict = none ∧ o.data = .seq its n ∧ its.size ≤ sizeLine ∧ Vals xs its.toList
def SqT (K : PySem.W.Frag) (H : Hp) (a : Addr) (xs : List V) : Prop :=
  Rd H a (.tup xs) ∨
    ∃ (o : Obj) (its : Array Value) (n : Nat), K.lookup a = some o ∧ o.cls = .type "tuple" ∧ o.data = .seq its n ∧ its.size ≤ sizeLine ∧ Vals xs its.toList
def absV : Value → Option V
  | .none => some .non
  | .bool b => some (.bl b)
  | .int i _ => some (.int i)
  | .str x _ => some (.str x)
  | .bytes b _ => some (.byt b)
  | .float b _ => some (.flt b)
  | .ref a => some (.ref a)
  | .type n => some (.ty n)
  | _ => none
theorem RelV.abs {x : V} {u : Value} (r : RelV x u) : absV u = some x := by
  cases x with
  | non => cases r; rfl
  | bl _ => cases r; rfl
  | int _ => obtain ⟨t, rfl⟩ := r; rfl
  | str _ => obtain ⟨t, rfl⟩ := r; rfl
  | byt _ => obtain ⟨t, rfl⟩ := r; rfl
  | flt _ => obtain ⟨t, rfl⟩ := r; rfl
  | ref _ => cases r; rfl
  | ty _ => cases r; rfl
theorem RelV.inj {x y : V} {u : Value} (r : RelV x u) (q : RelV y u) : x = y := Option.some.inj (r.abs.symm.trans q.abs)
theorem Vals.inj : ∀ {xs ys : List V} {us : List Value}, Vals xs us → Vals ys us → xs = ys
  | _, _, _, .nil, .nil => rfl
  | _, _, _, .cons r t, .cons r' t' => by rw [r.inj r', Vals.inj t t']
section
variable {X : Cx} {pins : List (Addr × Obj)} {σ : St} {H : Hp} {s : Shared} {a : Addr} {xs ys : List V}
theorem SqL.of {K : PySem.W.Frag} (h : H a = some (.lst xs)) : SqL K H a xs := .inl (.inl h)
theorem SqT.of {K : PySem.W.Frag} (h : H a = some (.tup xs)) : SqT K H a xs := .inl (.inl h)
theorem Inv.list (I : Inv X pins σ H s) (h : SqL X.K H a xs) : ∃ its : List Value, Vals xs its ∧ PlainL s.heap a its.toArray ∧ xs.length ≤ sizeLine := by
  rcases h with h | ⟨o, its, n, hk, hc, hd, hs, hz, r⟩
  · obtain ⟨z, its, n, r, e⟩ := h.ok I.hok
    exact ⟨its, r, ⟨_, n, e, rfl, rfl, rfl⟩, z⟩
  · refine ⟨its.toList, r, ⟨o, n, I.kIn a o hk, hc, hd, by simpa using hs⟩, ?_⟩
    have e := r.length
    simp only [Array.length_toList] at e
    omega
theorem Inv.tuple (I : Inv X pins σ H s) (h : SqT X.K H a xs) : ∃ its : List Value, Vals xs its ∧ IsTup s.heap a its.toArray ∧ xs.length ≤ sizeLine := by
  rcases h with h | ⟨o, its, n, hk, hc, hs, hz, r⟩
  · obtain ⟨z, its, r, p⟩ := h.ok I.hok
    exact ⟨its, r, p.is, z⟩
  · refine ⟨its.toList, r, ⟨o, I.kIn a o hk, hc, n, by simpa using hs⟩, ?_⟩
    have e := r.length
    simp only [Array.length_toList] at e
    omega
theorem Inv.list_inj (I : Inv X pins σ H s) (h : SqL X.K H a xs) (h' : SqL X.K H a ys) : xs = ys := by
  obtain ⟨its, r, ⟨o, n, e, _, _, d⟩, _⟩ := I.list h
  obtain ⟨its', r', ⟨o', n', e', _, _, d'⟩, _⟩ := I.list h'
  rw [e] at e'; cases e'
  rw [d] at d'
  injection d' with d1 _
  have : its = its' := by simpa using congrArg Array.toList d1
  subst this
  exact r.inj r'
theorem Inv.tuple_inj (I : Inv X pins σ H s) (h : SqT X.K H a xs) (h' : SqT X.K H a ys) : xs = ys := by
  obtain ⟨its, r, ⟨o, e, _, n, d⟩, _⟩ := I.tuple h
  obtain ⟨its', r', ⟨o', e', _, n', d'⟩, _⟩ := I.tuple h'
  rw [e] at e'; cases e'
  rw [d] at d'
  injection d' with d1 _
  have : its = its' := by simpa using congrArg Array.toList d1
  subst this
  exact r.inj r'
end
abbrev Cx.wish (X : Cx) (E : Value → Shared → Prop) : Cx := { X with xe := E }
abbrev Cx.nox (X : Cx) : Cx := X.wish fun _ _ => False
theorem Cx.Ok.wish {X : Cx} (ok : X.Ok) (E : Value → Shared → Prop) : (X.wish E).Ok :=
  ⟨ok.mod, ok.kind, ok.glob, ok.blt, ok.above, ok.inj, ok.has, ok.cab, ok.hd, ok.frames, ok.stk, ok.exf, ok.bs, ok.bsz, ok.noex, ok.exfs, ok.funs, ok.frf⟩
theorem Cx.Ok.unwish {X : Cx} {E : Value → Shared → Prop} (ok : (X.wish E).Ok) : X.Ok :=
  ⟨ok.mod, ok.kind, ok.glob, ok.blt, ok.above, ok.inj, ok.has, ok.cab, ok.hd, ok.frames, ok.stk, ok.exf, ok.bs, ok.bsz, ok.noex, ok.exfs, ok.funs, ok.frf⟩
section
variable {X : Cx} {pins : List (Addr × Obj)} {σ : St} {H : Hp} {s : Shared} {E : Value → Shared → Prop}
theorem Inv.wish (I : Inv X pins σ H s) (E : Value → Shared → Prop) : Inv (X.wish E) pins σ H s := ⟨I.ok.wish E, I.os, I.bare, I.base, I.loc, I.cell, I.free, I.freeC, I.pin, I.hok, I.len⟩
theorem Inv.unwish (I : Inv (X.wish E) pins σ H s) : Inv X pins σ H s := ⟨I.ok.unwish, I.os, I.bare, I.base, I.loc, I.cell, I.free, I.freeC, I.pin, I.hok, I.len⟩
theorem SP.unwish {D : Ends} {f : Flow} {s' : Shared} (h : SP (X.wish E) pins D f s') : SP X pins D f s' := by
  cases f with
  | next => obtain ⟨σ', H', I, q⟩ := h; exact ⟨σ', H', I.unwish, q⟩
  | brk => obtain ⟨σ', H', I, q⟩ := h; exact ⟨σ', H', I.unwish, q⟩
  | cont => obtain ⟨σ', H', I, q⟩ := h; exact ⟨σ', H', I.unwish, q⟩
  | ret u => obtain ⟨v, σ', H', I, r, q⟩ := h; exact ⟨v, σ', H', I.unwish, r, q⟩
theorem PE.nox {e : Expr} {t : TE} (h : PE X.nox e t) : PE X e t := fun pins s σ H Q I hw =>
  wpAny_mono (h pins s σ H Q (I.wish _) hw) (fun _ _ ⟨v, H', I', r, q⟩ => ⟨v, H', I'.unwish, r, q⟩) fun _ _ z => False.elim z
theorem PT.nox {e : Expr} {t : TT} (h : PT X.nox e t) : PT X e t := fun pins s σ H Q I hw =>
  wpAny_mono (h pins s σ H Q (I.wish _) hw) (fun _ _ ⟨H', I', q⟩ => ⟨H', I'.unwish, q⟩) fun _ _ z => False.elim z
theorem PSs.nox {st : List Stmt} {t : TS} (h : PSs X.nox st t) : PSs X st t := fun pins s σ H D I hw =>
  wpAny_mono (h pins s σ H D (I.wish _) hw) (fun _ _ q => q.unwish) fun _ _ z => False.elim z
end
section
variable {X : Cx} {st : Stmt} {rest : List Stmt} {t u : TS} {e : Expr} {te : TE} {pos : Pos}
def tNext : TS := fun D σ H => D.nx σ H
def tSeq (t u : TS) : TS := fun D σ H => t { D with nx := u D } σ H
theorem pss_nil : PSs X [] tNext := fun _ _ σ H _ I h => wpAny_execs_nil ⟨σ, H, I, h⟩
theorem pss_cons (h1 : PS X st t) (h2 : PSs X rest u) : PSs X (st :: rest) (tSeq t u) := by
  intro pins s σ H D I h
  refine wpAny_execs_cons (thn (h1 pins s σ H { D with nx := u D } I h) fun f s1 q => ?_)
  cases f with
  | next =>
    obtain ⟨σ', H', I', q⟩ := q
    exact h2 pins s1 σ' H' D I' q
  | ret v => exact q
  | brk => exact q
  | cont => exact q
theorem pss_one (h1 : PS X st t) : PSs X [st] t := by
  intro pins s σ H D I h
  refine wpAny_execs_cons (thn (h1 pins s σ H D I h) fun f s1 q => ?_)
  cases f with
  | next => exact wpAny_execs_nil q
  | ret v => exact q
  | brk => exact q
  | cont => exact q
theorem Inv.quiet {pins : List (Addr × Obj)} {σ : St} {H : Hp} {s : Shared} (I : Inv X pins σ H s) : interactive X.env = false := by simp [interactive, I.ok.kind]
def tDrop (te : TE) : TS := fun D σ H => te σ H fun _ H1 => D.nx σ H1
theorem ps_expr (he : PE X e te) (hs : swapsWith e none pos.line X.env = pure false := by rfl) : PS X (.Expr e pos) (tDrop te) := by
  intro pins s σ H D I h
  exact wpAny_Expr_any (thn (he pins s σ H _ I h) fun v s1 ⟨x, H1, I1, r1, q1⟩ => ⟨σ, H1, I1, q1⟩) I.quiet hs
def tRet (te : TE) : TS := fun D σ H => te σ H D.rt
theorem ps_ret (he : PE X e te) : PS X (.Return (some e) pos) (tRet te) := by
  intro pins s σ H D I h
  exact wpAny_Return_some (thn (he pins s σ H _ I h) fun v s1 ⟨x, H1, I1, r1, q1⟩ => ⟨x, σ, H1, I1, r1, q1⟩)
def tIfS (c : TT) (t u : TS) : TS := fun D σ H => c σ H fun b H1 => if b = true then t D σ H1 else u D σ H1
theorem ps_if {c : Expr} {a b : List Stmt} {tc : TT} (hc : PT X c tc) (ha : PSs X a t) (hb : PSs X b u) : PS X (.If c a b pos) (tIfS tc t u) := by
  intro pins s σ H D I h
  refine wpAny_If (thn (hc pins s σ H _ I h) fun d s1 ⟨H1, I1, q1⟩ => ?_)
  cases d with
  | true => exact ha pins s1 σ H1 D I1 q1
  | false => exact hb pins s1 σ H1 D I1 q1
end
abbrev TG := V → St → Hp → (St → Hp → Prop) → Prop
abbrev TGs := List V → St → Hp → (St → Hp → Prop) → Prop
def PG (X : Cx) (target : Expr) (t : TG) : Prop :=
  ∀ (pins : List (Addr × Obj)) (s : Shared) (σ : St) (H : Hp) (v : V) (u : Value) (Q : St → Hp → Prop), Inv X pins σ H s → RelV v u → t v σ H Q →
    wpAny (model X.prog X.w) X.A (assign target X.env u) (fun _ s' => ∃ σ' H', Inv X pins σ' H' s' ∧ Q σ' H') X.xe s
def PGs (X : Cx) (ts : List Expr) (t : TGs) : Prop :=
  ∀ (pins : List (Addr × Obj)) (s : Shared) (σ : St) (H : Hp) (vs : List V) (us : List Value) (Q : St → Hp → Prop), Inv X pins σ H s → Vals vs us → t vs σ H Q →
    wpAny (model X.prog X.w) X.A (assignInOrder ((assignEach ts X.env).map (·.2)) us) (fun _ s' => ∃ σ' H', Inv X pins σ' H' s' ∧ Q σ' H') X.xe s
abbrev TSet := V → V → V → Hp → (Hp → Prop) → Prop
def PSet (X : Cx) (t : TSet) : Prop :=
  ∀ (pins : List (Addr × Obj)) (s : Shared) (σ : St) (H : Hp) (o i v : V) (ov iv u : Value) (Q : Hp → Prop), Inv X pins σ H s → RelV o ov → RelV i iv → RelV v u → t o i v H Q →
    wpAny (model X.prog X.w) X.A (setItem ov iv u) (fun _ s' => ∃ H', Inv X pins σ H' s' ∧ Q H') X.xe s
abbrev TIp := V → V → Hp → VK → Prop
def PIp (X : Cx) (op : Operator) (t : TIp) : Prop :=
  ∀ (pins : List (Addr × Obj)) (s : Shared) (σ : St) (H : Hp) (x y : V) (v u : Value) (Q : VK), Inv X pins σ H s → RelV x v → RelV y u → t x y H Q →
    wpAny (model X.prog X.w) X.A (inplaceOp op v u) (EP X pins σ Q) X.xe s
section
variable {X : Cx} {pos : Pos}
def gName (i : Nat) : TG := fun v σ H Q => Q (σ.set i (some v)) H
theorem pg_name {i : Nat} {x : Str} (hN : X.N.Nodup) (hi : X.N[i]? = some x) (hx : Loc X.env.scope x) (hf : X.fn x = true ∨ X.env.scope.names.lookup x = some .local := by first | exact .inl rfl | exact .inr rfl | assumption) : PG X (.Name x pos) (gName i) := by
  intro pins s σ H v u Q I r h
  exact wpAny_assign_Name (store_ok I hN hi hx r (fun s' I' => ⟨_, H, I', h⟩) hf)
def gNil : TGs := fun vs σ H Q => vs = [] ∧ Q σ H
def gCons (t : TG) (u : TGs) : TGs := fun vs σ H Q => ∃ v r, vs = v :: r ∧ t v σ H fun σ' H' => u r σ' H' Q
theorem pgs_nil : PGs X [] gNil := by
  intro pins s σ H vs us Q I r h
  obtain ⟨e, h⟩ := h
  subst e
  cases r
  exact assignInOrder_nil ⟨σ, H, I, h⟩
theorem pgs_cons {e : Expr} {es : List Expr} {t : TG} {u : TGs} (h1 : PG X e t) (h2 : PGs X es u)
    (hs : (assignEach (e :: es) X.env).map (·.2) = assign e X.env :: (assignEach es X.env).map (·.2) := by rfl) : PGs X (e :: es) (gCons t u) := by
  intro pins s σ H vs us Q I r h
  obtain ⟨v, vr, e1, h⟩ := h
  subst e1
  cases r with
  | cons r rr =>
    rw [hs]
    refine assignInOrder_cons (thn (h1 pins s σ H _ _ _ I r h) fun _ s1 ⟨σ1, H1, I1, q1⟩ => ?_)
    exact h2 pins s1 σ1 H1 _ _ Q I1 rr q1
def gTup (K : PySem.W.Frag) (n : Nat) (t : TGs) : TG := fun v σ H Q => ∃ a xs, v = .ref a ∧ SqT K H a xs ∧ xs.length = n ∧ t xs σ H Q
theorem pg_tup {es : List Expr} {k : Nat} {t : TGs} {n : Nat} (hc : X.calm = true) (h : PGs X es t)
    (hn : (assignEach es X.env).length = n := by rfl) (hst : (assignEach es X.env).findIdx? (·.1) = none := by rfl) : PG X (.Tuple es k pos) (gTup X.K n t) := by
  intro pins s σ H v u Q I r hw
  obtain ⟨a, xs, e1, hq, hl, hw⟩ := hw
  subst e1
  cases r
  obtain ⟨its, rv, ht, hz⟩ := I.tuple hq
  refine assign_Tuple_tuple (I.ok.hd hc) ht (by simp [hn, ← hl, rv.length]) hst fun h' hx => ?_
  have I1 : Inv X pins σ H { s with heap := h' } := I.kept (t' := s.toks) fun b o e => hx b o (Nat.ne_of_lt (Heap.lt_size e)) e
  exact h pins _ σ H xs _ Q I1 (by simpa using rv) hw
def gSub (to ti : TE) (t : TSet) : TG := fun v σ H Q => to σ H fun o H1 => ti σ H1 fun i H2 => t o i v H2 fun H3 => Q σ H3
theorem pg_sub {o i : Expr} {to ti : TE} {t : TSet} (ho : PE X o to) (hi : PE X i ti) (hs : PSet X t)
    (ha : ∀ v, assign (.Subscript o i pos) X.env v = (do
      let ov ← holding [v] (eval o X.env)
      let iv ← holding [v, ov] (eval i X.env)
      standAt pos
      holding [v, ov, iv] (setItem ov iv v)
      release [v, ov, iv] []) := by intro _; rfl) : PG X (.Subscript o i pos) (gSub to ti t) := by
  intro pins s σ H v u Q I r h
  rw [ha]
  refine wpAny_bind (wpAny_holding (thn (ho pins s σ H _ I h) fun ov s1 ⟨x, H1, I1, r1, q1⟩ => ?_))
  refine wpAny_bind (wpAny_holding (thn (hi pins s1 σ H1 _ I1 q1) fun iv s2 ⟨y, H2, I2, r2, q2⟩ => ?_))
  refine wpAny_bind (wpAny_standAt (wpAny_bind (wpAny_holding (thn (hs pins s2 σ H2 x y v ov iv u _ I2 r1 r2 r q2) fun _ s3 ⟨H3, I3, q3⟩ => ?_))))
  exact wpAny_release ⟨σ, H3, I3, q3⟩
def tAsg (te : TE) (g : TG) : TS := fun D σ H => te σ H fun x H1 => g x σ H1 D.nx
theorem ps_asg {tg e : Expr} {te : TE} {g : TG} (he : PE X e te) (hg : PG X tg g) (hs : swapsWithSole [tg] e pos.line X.env = pure false := by rfl) (hw : swappedStores [tg] e X.env = pure none := by rfl)
    (h1 : (assignEach [tg] X.env).map (·.2) = [assign tg X.env] := by rfl) : PS X (.Assign [tg] e pos) (tAsg te g) := by
  intro pins s σ H D I h
  refine wpAny_Assign_stores (thn (he pins s σ H _ I h) fun v s1 ⟨x, H1, I1, r1, q1⟩ => ?_) hs hw
  rw [h1]
  exact thn (hg pins s1 σ H1 x v _ I1 r1 q1) fun _ s2 q => q
theorem ps_set {i : Nat} {x : Str} {e : Expr} {te : TE} {pos' : Pos} (hN : X.N.Nodup) (hi : X.N[i]? = some x) (hx : Loc X.env.scope x) (he : PE X e te) (hs : swapsWith e (some (.Name x pos')) pos.line X.env = pure false := by rfl) (hf : X.fn x = true ∨ X.env.scope.names.lookup x = some .local := by first | exact .inl rfl | exact .inr rfl | assumption) :
    PS X (.Assign [.Name x pos'] e pos) (tAsg te (gName i)) := by
  intro pins s σ H D I h
  refine wpAny_Assign_Name (thn (he pins s σ H _ I h) fun v s1 ⟨y, H1, I1, r1, q1⟩ => ?_) hs
  exact store_ok I1 hN hi hx r1 (fun s2 I2 => ⟨_, H1, I2, q1⟩) hf
def tAug (i : Nat) (te : TE) (ti : TIp) : TS := fun D σ H => ∃ x, σ[i]? = some (some x) ∧ te σ H fun y H1 => ti x y H1 fun z H2 => D.nx (σ.set i (some z)) H2
theorem ps_aug {i : Nat} {x : Str} {e : Expr} {te : TE} {op : Operator} {ti : TIp} {pos' : Pos} (hN : X.N.Nodup) (hi : X.N[i]? = some x) (hx : Loc X.env.scope x) (he : PE X e te) (ho : PIp X op ti) (hf : X.fn x = true ∨ X.env.scope.names.lookup x = some .local := by first | exact .inl rfl | exact .inr rfl | assumption) :
    PS X (.AugAssign (.Name x pos') op e pos) (tAug i te ti) := by
  intro pins s σ H D I h
  obtain ⟨v, e1, h⟩ := h
  obtain ⟨m, hn, hl⟩ := I.loc
  have vis : Vis X.env.scope x := by rcases hx with k | k; exact .inl k; exact .inr (.inl k)
  obtain ⟨u, r, l⟩ := hl i x v hi e1 vis
  refine wpAny_AugAssign_Name ?_
  have go : wpAny (model X.prog X.w) X.A (eval e X.env) (fun w s₂ => wpAny (model X.prog X.w) X.A (inplaceOp op u w) (fun r s₃ => wpAny (model X.prog X.w) X.A (storeName X.env x r) (fun _ => SP X pins D .next) X.xe s₃) X.xe s₂) X.xe s := by
    refine thn (he pins s σ H _ I h) fun w s1 ⟨y, H1, I1, r1, q1⟩ => ?_
    refine thn (ho pins s1 σ H1 v y u w _ I1 r r1 q1) fun z s2 ⟨zv, H2, I2, r2, q2⟩ => ?_
    exact store_ok I2 hN hi hx r2 (fun s3 I3 => ⟨_, H2, I3, q2⟩) hf
  rcases l with ⟨hk, hm⟩ | ⟨hk, c, hc, hcell⟩
  · exact wpAny_loadName_local I.ok.kind hk hn hm go
  · rcases hk with hk | hk
    · exact wpAny_loadName_cell I.ok.kind hk hc hcell go
    · rcases hx with k | k
      · have : X.env.scope.names.lookup x = some .free := hk
        rw [k] at this; cases this
      · have : X.env.scope.names.lookup x = some .free := hk
        rw [k] at this; cases this
def tAugS (to ti te : TE) (tget : V → V → Hp → VK → Prop) (tip : TIp) (tset : TSet) : TS := fun D σ H => to σ H fun o H1 => ti σ H1 fun i H2 => tget o i H2 fun x H3 => te σ H3 fun y H4 => tip x y H4 fun z H5 => tset o i z H5 fun H6 => D.nx σ H6
def PGet (X : Cx) (t : V → V → Hp → VK → Prop) : Prop :=
  ∀ (pins : List (Addr × Obj)) (s : Shared) (σ : St) (H : Hp) (o i : V) (ov iv : Value) (Q : VK), Inv X pins σ H s → RelV o ov → RelV i iv → t o i H Q →
    wpAny (model X.prog X.w) X.A (getItem ov iv) (EP X pins σ Q) X.xe s
theorem ps_augS {o i e : Expr} {to ti te : TE} {tget : V → V → Hp → VK → Prop} {tip : TIp} {tset : TSet} {op : Operator} {tpos : Pos} (ho : PE X o to) (hi : PE X i ti) (hg : PGet X tget) (he : PE X e te) (hp : PIp X op tip) (hs : PSet X tset)
    (ha : ∀ ov iv new, augStore i ov iv new = (do holding [new, ov, iv] (setItem ov iv new); release [new, ov, iv] []; pure .next) := by intros; rfl) : PS X (.AugAssign (.Subscript o i tpos) op e pos) (tAugS to ti te tget tip tset) := by
  intro pins s σ H D I h
  refine wpAny_AugAssign_SubscriptAny (thn (ho pins s σ H _ I h) fun ov s1 ⟨x1, H1, I1, r1, q1⟩ => ?_) ha
  refine thn (hi pins s1 σ H1 _ I1 q1) fun iv s2 ⟨x2, H2, I2, r2, q2⟩ => ?_
  refine thn (hg pins s2 σ H2 x1 x2 ov iv _ I2 r1 r2 q2) fun old s3 ⟨x3, H3, I3, r3, q3⟩ => ?_
  refine thn (he pins s3 σ H3 _ I3 q3) fun v s4 ⟨x4, H4, I4, r4, q4⟩ => ?_
  refine thn (hp pins s4 σ H4 x3 x4 old v _ I4 r3 r4 q4) fun new s5 ⟨x5, H5, I5, r5, q5⟩ => ?_
  exact thn (hs pins s5 σ H5 x1 x2 x5 ov iv new _ I5 r1 r2 r5 q5) fun _ s6 ⟨H6, I6, q6⟩ => ⟨σ, H6, I6, q6⟩
def ipI (f : Int → Int → Int) : TIp := fun x y H Q => ∃ i j, x = .int i ∧ y = .int j ∧ Q (.int (f i j)) H
theorem ip_add : PIp X .Add (ipI fun i j => i + j) := by
  intro pins s σ H x y v u Q I r1 r2 h
  obtain ⟨i, j, e1, e2, q⟩ := h
  subst e1; subst e2
  obtain ⟨t, rfl⟩ := r1
  obtain ⟨t', rfl⟩ := r2
  exact iadd_int ⟨.int _, H, I.tok _, ⟨_, rfl⟩, q⟩
end
section
variable {X : Cx} {pos : Pos}
def tWhile (c : TT) (tb : TS) : TS := fun D σ H => ∃ W : Nat → St → Hp → Prop, (∃ m, W m σ H) ∧ ∀ m σ H, W m σ H →
  c σ H fun b H1 => if b = true then ∃ N : St → Hp → Prop, (∀ σ' H', N σ' H' → ∃ m', m' < m ∧ W m' σ' H') ∧ tb { D with nx := N, ct := N, bk := D.nx } σ H1 else D.nx σ H1
theorem ps_while {c : Expr} {body : List Stmt} {tc : TT} {tb : TS} (hp : PassesOwn (model X.prog X.w) X.A X.env X.xe) (hc : PT X c tc) (hb : PSs X body tb) : PS X (.While c body [] pos) (tWhile tc tb) := by
  intro pins s σ H D I h
  obtain ⟨W, ⟨m0, w0⟩, turn⟩ := h
  refine wpAny_While (codeAny_whileLoop (fun n s' => ∃ σ' H', Inv X pins σ' H' s' ∧ W n σ' H') ?_ m0 ⟨σ, H, I, w0⟩)
  rintro n s1 ⟨σ1, H1, I1, w1⟩
  refine wpAny_passesOwn hp (thn (hc pins s1 σ1 H1 _ I1 (turn n σ1 H1 w1)) fun b s2 ⟨H2, I2, q2⟩ => ?_)
  cases b with
  | true =>
    obtain ⟨N, hN, q2⟩ := q2
    rw [if_pos rfl]
    refine wpAny_passesOwn hp (thn (hb pins s2 σ1 H2 _ I2 q2) fun f s3 q3 => ?_)
    cases f with
    | next =>
      obtain ⟨σ3, H3, I3, n3⟩ := q3
      obtain ⟨m', hm, w3⟩ := hN σ3 H3 n3
      exact ⟨m', hm, σ3, H3, I3, w3⟩
    | cont =>
      obtain ⟨σ3, H3, I3, n3⟩ := q3
      obtain ⟨m', hm, w3⟩ := hN σ3 H3 n3
      exact ⟨m', hm, σ3, H3, I3, w3⟩
    | brk => exact q3
    | ret v => exact q3
  | false =>
    rw [if_neg Bool.false_ne_true]
    exact wpAny_execs_nil ⟨σ1, H2, I2, q2⟩
end
structure It where
  go : Nat → Hp → Prop
  yld : Nat → Hp → V → Hp → Prop
  stop : Nat → Hp → Prop
def FpOk (X : Cx) (pins : List (Addr × Obj)) (H : Hp) (b : Addr) : Prop :=
  H b = none ∧ b ≠ X.env.locals ∧ b ∉ X.fs ∧ (b ∈ X.ex ∨ X.s_0.heap.objs.size ≤ b) ∧ (∀ x c, X.env.cells.lookup x = some c → c ≠ b) ∧ ∀ p ∈ X.pn ++ pins, p.1 ≠ b
theorem Inv.fpOk {X : Cx} {pins : List (Addr × Obj)} {σ : St} {H H' : Hp} {s : Shared} {b : Addr} (I : Inv X pins σ H s) (hb : s.heap.objs.size ≤ b) (hn : H' b = none) : FpOk X pins H' b := by
  refine ⟨hn, Nat.ne_of_gt (Nat.lt_of_lt_of_le I.lt hb), I.nofs hb, .inr (Nat.le_trans I.sz hb), fun x c e z => ?_, fun p hp z => ?_⟩
  · obtain ⟨v, q⟩ := I.cell x c e
    exact absurd (Nat.lt_of_lt_of_le q.lt (by rw [z]; exact hb)) (Nat.lt_irrefl _)
  · exact absurd (Nat.lt_of_lt_of_le (Heap.lt_size (I.pin p hp).1) (by rw [z]; exact hb)) (Nat.lt_irrefl _)
structure Turn (P : Program) (w : World) (K : PySem.W.Frag) (tg : Expr) (J : It) (fp : List Addr) (it : Addr) (tn : Nat → Heap → Prop) : Prop where
  mem : it ∈ fp
  obj : ∀ i h, tn i h → ∀ b ∈ fp, ∃ o, h.get? b = some o ∧ ∀ v, o.data ≠ .cell v
  keep : ∀ i h h', tn i h → (∀ b ∈ fp, ∀ o, h.get? b = some o → h'.get? b = some o) → tn i h'
  item : ∀ (X : Cx), X.prog = P → X.w = w → X.K = K → X.calm = true → ∀ (i : Nat) (pins : List (Addr × Obj)) (s : Shared) (σ : St) (H : Hp) (E : Value → Shared → Prop), Inv X pins σ H s → (∀ b ∈ fp, FpOk X pins H b) → tn i s.heap → J.go i H →
    wpAny (model P w) X.A (pyNext (.ref it)) (fun r s1 => ∃ u, r = some u ∧
      wpAny (model P w) X.A (letOwnedTupleGo tg (.ref it) u) (fun _ s2 => ∃ x H', Inv X pins σ H' s2 ∧ RelV x u ∧ J.yld i H x H' ∧ tn (i + 1) s2.heap ∧ ∀ b ∈ fp, H' b = none) E s1) E s
  done : ∀ (X : Cx), X.prog = P → X.w = w → X.K = K → X.calm = true → ∀ (i : Nat) (pins : List (Addr × Obj)) (s : Shared) (σ : St) (H : Hp) (E : Value → Shared → Prop), Inv X pins σ H s → (∀ b ∈ fp, FpOk X pins H b) → tn i s.heap → J.stop i H →
    wpAny (model P w) X.A (pyNext (.ref it)) (fun r s1 => r = none ∧ Inv X pins σ H s1) E s
  self : ∀ (A : Around) (i : Nat) (s : Shared) (Q : Value → Shared → Prop) (E : Value → Shared → Prop), tn i s.heap → Q (.ref it) s → wpAny (model P w) A (pyIter (.ref it)) Q E s
abbrev TI := St → Hp → (It → Hp → Prop) → Prop
def PIE (X : Cx) (pins : List (Addr × Obj)) (σ : St) (tg : Expr) (R : It → Hp → Prop) (itv : Value) (s2 : Shared) : Prop :=
  ∃ (it : Addr) (fp : List Addr) (tn : Nat → Heap → Prop) (J : It) (H' : Hp), itv = .ref it ∧ Inv X pins σ H' s2 ∧ Turn X.prog X.w X.K tg J fp it tn ∧ tn 0 s2.heap ∧ (∀ b ∈ fp, FpOk X pins H' b) ∧ R J H'
def PI (X : Cx) (tg iter : Expr) (wi : TI) : Prop :=
  ∀ (pins : List (Addr × Obj)) (s : Shared) (σ : St) (H : Hp) (R : It → Hp → Prop), Inv X pins σ H s → wi σ H R →
    wpAny (model X.prog X.w) X.A (eval iter X.env) (fun v s1 => wpAny (model X.prog X.w) X.A (pyIter v) (PIE X pins σ tg R) X.xe s1) X.xe s
theorem go_of {M : Model} {A : Around} {E : Value → Shared → Prop} {s : Shared} {tg : Expr} {it : Addr} {u : Value} {o : Obj} {n : String} {vs : Array Value} {Q : Unit → Shared → Prop} (ho : s.heap.get? it = some o) (hc : o.cls = .type n) (hd : o.data = .fields vs)
    (hn : ["enumerate", "zip", "dict_itemiterator", "dict_reverseitemiterator", "odict_iterator", "itertools.zip_longest", "itertools.pairwise"].contains n = false) (hQ : Q () s) : wpAny M A (letOwnedTupleGo tg (.ref it) u) Q E s := by
  unfold letOwnedTupleGo
  cases tg <;> first
    | exact wpAny_pure hQ
    | (cases u <;> first
        | exact wpAny_pure hQ
        | (refine wpAny_bind (wpAny_load ho ?_)
           rw [hc, hd]
           show wpAny M A (if (["enumerate", "zip", "dict_itemiterator", "dict_reverseitemiterator", "odict_iterator", "itertools.zip_longest", "itertools.pairwise"].contains n && vs[0]? == some (rawInt _)) = true then _ else _) Q E s
           rw [if_neg (by intro h; rw [hn, Bool.false_and] at h; cases h)]
           exact wpAny_pure hQ))
def Itl (K : PySem.W.Frag) (a : Addr) : It :=
  ⟨fun i H => ∃ xs x, SqL K H a xs ∧ xs[i]? = some x, fun i H x H' => H' = H ∧ ∀ xs, SqL K H a xs → xs[i]? = some x, fun i H => ∃ xs, SqL K H a xs ∧ xs.length ≤ i⟩
def Itt (K : PySem.W.Frag) (a : Addr) : It :=
  ⟨fun i H => ∃ xs x, SqT K H a xs ∧ xs[i]? = some x, fun i H x H' => H' = H ∧ ∀ xs, SqT K H a xs → xs[i]? = some x, fun i H => ∃ xs, SqT K H a xs ∧ xs.length ≤ i⟩
def Itr (lo : Int) (n : Nat) : It := ⟨fun i _ => i < n, fun i H x H' => H' = H ∧ x = .int (lo + i), fun i _ => n ≤ i⟩
theorem turn_list {P : Program} {w : World} {K : PySem.W.Frag} {tg : Expr} (a it : Addr) : Turn P w K tg (Itl K a) [it] it (fun i h => h.IsListIter it a i) where
  mem := by simp
  obj := fun i h st b hb => by
    have e : b = it := by simpa using hb
    subst e
    obtain ⟨o, e, c, d⟩ := st
    exact ⟨o, e, fun v z => by rw [d] at z; cases z⟩
  keep := fun i h h' st k => st.at fun o e => k it (by simp) o e
  item := by
    intro X hP hw hK hc i pins s σ H E I hf st hg
    subst hP hw hK
    obtain ⟨xs, x, hq, hx⟩ := hg
    obtain ⟨its, rv, p, hz⟩ := I.list hq
    obtain ⟨u, hu, ru⟩ := rv.get hx
    obtain ⟨f0, f1, f2, f3, f4, f5⟩ := hf it (by simp)
    refine wpAny_pyNext_list_item st p.isList (x := u) (by simpa using hu) fun h' st' sb => ?_
    have I1 : Inv X pins σ H { s with heap := h' } := I.turned (t' := s.toks) (fun b o hb e => (sb.2 b hb).trans e) f0 f1 f3 f4 f5
    obtain ⟨o, e, c, d⟩ := id st'
    exact ⟨u, rfl, go_of (s := { s with heap := h' }) e c d (by decide) ⟨x, H, I1, ru, ⟨rfl, fun ys hy => by rw [I.list_inj hy hq]; exact hx⟩, st', fun b hb => (hf b hb).1⟩⟩
  done := by
    intro X hP hw hK hc i pins s σ H E I hf st hg
    subst hP hw hK
    obtain ⟨xs, hq, hx⟩ := hg
    obtain ⟨its, rv, p, hz⟩ := I.list hq
    obtain ⟨f0, f1, f2, f3, f4, f5⟩ := hf it (by simp)
    have hl := rv.length
    exact wpAny_pyNext_list_end (I.ok.hd hc) st p.isList (by simp; omega) fun h' eb => ⟨rfl, I.turned (t' := s.toks) (fun b o hb e => eb b o hb e) f0 f1 f3 f4 f5⟩
  self := fun _ _ _ _ _ st h => wpAny_pyIter_listiter st h
theorem turn_tuple {P : Program} {w : World} {K : PySem.W.Frag} {tg : Expr} (a it : Addr) : Turn P w K tg (Itt K a) [it] it (fun i h => h.IsTupleIter it a i) where
  mem := by simp
  obj := fun i h st b hb => by
    have e : b = it := by simpa using hb
    subst e
    obtain ⟨o, e, c, d⟩ := st
    exact ⟨o, e, fun v z => by rw [d] at z; cases z⟩
  keep := fun i h h' st k => st.at fun o e => k it (by simp) o e
  item := by
    intro X hP hw hK hc i pins s σ H E I hf st hg
    subst hP hw hK
    obtain ⟨xs, x, hq, hx⟩ := hg
    obtain ⟨its, rv, p, hz⟩ := I.tuple hq
    obtain ⟨u, hu, ru⟩ := rv.get hx
    obtain ⟨f0, f1, f2, f3, f4, f5⟩ := hf it (by simp)
    refine wpAny_pyNext_tuple_item st (show s.heap.IsTuple a its.toArray from p) (x := u) (by simpa using hu) fun h' st' sb => ?_
    have I1 : Inv X pins σ H { s with heap := h' } := I.turned (t' := s.toks) (fun b o hb e => (sb.2 b hb).trans e) f0 f1 f3 f4 f5
    obtain ⟨o, e, c, d⟩ := id st'
    exact ⟨u, rfl, go_of (s := { s with heap := h' }) e c d (by decide) ⟨x, H, I1, ru, ⟨rfl, fun ys hy => by rw [I.tuple_inj hy hq]; exact hx⟩, st', fun b hb => (hf b hb).1⟩⟩
  done := by
    intro X hP hw hK hc i pins s σ H E I hf st hg
    subst hP hw hK
    obtain ⟨xs, hq, hx⟩ := hg
    obtain ⟨its, rv, p, hz⟩ := I.tuple hq
    obtain ⟨f0, f1, f2, f3, f4, f5⟩ := hf it (by simp)
    have hl := rv.length
    exact wpAny_pyNext_tuple_end (I.ok.hd hc) st (show s.heap.IsTuple a its.toArray from p) (by simp; omega) fun h' eb => ⟨rfl, I.turned (t' := s.toks) (fun b o hb e => eb b o hb e) f0 f1 f3 f4 f5⟩
  self := fun _ _ _ _ _ st h => wpAny_pyIter_tupleiter st h
theorem turn_range {P : Program} {w : World} {K : PySem.W.Frag} {tg : Expr} (it : Addr) (lo : Int) (n : Nat) : Turn P w K tg (Itr lo n) [it] it (fun i h => IsRangeIter h it (lo + (i : Nat) * 1) ((n : Int) - (i : Nat)) 1) where
  mem := by simp
  obj := fun i h st b hb => by
    have e : b = it := by simpa using hb
    subst e
    exact ⟨_, st, fun v z => by
      have z' : Data.fields _ = Data.cell v := z
      cases z'⟩
  keep := fun i h h' st k => k it (by simp) _ st
  item := by
    intro X hP hw hK hc i pins s σ H E I hf st hg
    subst hP hw hK
    obtain ⟨f0, f1, f2, f3, f4, f5⟩ := hf it (by simp)
    have W := Walks.range (prog := X.prog) (w := X.w) (I.ok.hd hc) it lo 1 n
    refine W.item i s _ _ hg st fun v h' tk hv st' kk => ?_
    obtain ⟨t, rfl⟩ := hv
    have I1 : Inv X pins σ H { s with heap := h', toks := tk } := I.turned (fun b o hb e => kk b o (by simpa using hb) e) f0 f1 f3 f4 f5
    refine ⟨_, rfl, go_of (s := { s with heap := h', toks := tk }) (n := "range_iterator") st' rfl rfl (by decide) ⟨.int (lo + i), H, I1, ⟨t, ?_⟩, ⟨rfl, rfl⟩, st', fun b hb => (hf b hb).1⟩⟩
    rw [Int.mul_one]
  done := by
    intro X hP hw hK hc i pins s σ H E I hf st hg
    subst hP hw hK
    obtain ⟨f0, f1, f2, f3, f4, f5⟩ := hf it (by simp)
    exact wpAny_pyNext_range_end (I.ok.hd hc) st (by have : n ≤ i := hg; omega) fun h' eb => ⟨rfl, I.turned (t' := s.toks) (fun b o hb e => eb b o hb e) f0 f1 f3 f4 f5⟩
  self := fun _ _ _ _ _ st h => wpAny_pyIter_rangeiter st h
end L2
namespace L2
open PySem PySem.Spec PyProof.Rows
section
variable {X : Cx} {tg : Expr}
def iList (K : PySem.W.Frag) (tl : TE) : TI := fun σ H R => tl σ H fun x H1 => ∃ a, x = .ref a ∧ (∃ xs, SqL K H1 a xs) ∧ R (Itl K a) H1
def iTup (K : PySem.W.Frag) (tl : TE) : TI := fun σ H R => tl σ H fun x H1 => ∃ a, x = .ref a ∧ (∃ xs, SqT K H1 a xs) ∧ R (Itt K a) H1
theorem pi_list {l : Expr} {tl : TE} (hl : PE X l tl) : PI X tg l (iList X.K tl) := by
  intro pins s σ H R I h
  refine thn (hl pins s σ H _ I h) fun v s1 ⟨x, H1, I1, r1, q1⟩ => ?_
  obtain ⟨a, e, ⟨xs, hq⟩, q⟩ := q1
  subst e
  cases r1
  obtain ⟨its, rv, p, hz⟩ := I1.list hq
  refine wpAny_pyIter_list p.isList ?_
  refine ⟨s1.heap.objs.size, [s1.heap.objs.size], _, _, H1, rfl, I1.kept (t' := s1.toks) fun b o e => Heap.get?_push_of_some _ e, turn_list a _, ⟨_, Heap.get?_push_size _ rfl, rfl, rfl⟩, fun b hb => ?_, q⟩
  have e : b = s1.heap.objs.size := by simpa using hb
  subst e
  exact I1.fpOk (Nat.le_refl _) (I1.hok.fresh (Nat.le_refl _))
theorem pi_tup {l : Expr} {tl : TE} (hl : PE X l tl) : PI X tg l (iTup X.K tl) := by
  intro pins s σ H R I h
  refine thn (hl pins s σ H _ I h) fun v s1 ⟨x, H1, I1, r1, q1⟩ => ?_
  obtain ⟨a, e, ⟨xs, hq⟩, q⟩ := q1
  subst e
  cases r1
  obtain ⟨its, rv, p, hz⟩ := I1.tuple hq
  refine wpAny_pyIter_tuple (show s1.heap.IsTuple a its.toArray from p) ?_
  refine ⟨s1.heap.objs.size, [s1.heap.objs.size], _, _, H1, rfl, I1.kept (t' := s1.toks) fun b o e => Heap.get?_push_of_some _ e, turn_tuple a _, ⟨_, Heap.get?_push_size _ rfl, rfl, rfl⟩, fun b hb => ?_, q⟩
  have e : b = s1.heap.objs.size := by simpa using hb
  subst e
  exact I1.fpOk (Nat.le_refl _) (I1.hok.fresh (Nat.le_refl _))
theorem range_it {pins : List (Addr × Obj)} {σ : St} {H : Hp} {s : Shared} {R : It → Hp → Prop} {E : Value → Shared → Prop} {lo hi : Int} {t u v : Tok} {tk : Nat} (I : Inv X pins σ H s) (h1 : -(2 ^ 62) ≤ lo) (h2 : lo < 2 ^ 62) (h3 : -(2 ^ 62) ≤ hi) (h4 : hi < 2 ^ 62)
    (q : R (Itr lo (hi - lo).toNat) H) : wpAny (model X.prog X.w) X.A (pyIter (.ref s.heap.objs.size)) (PIE X pins σ tg R) E { s with heap := s.heap.push { cls := .type "range", data := .fields #[.int lo t, .int hi u, .int 1 v] }, toks := tk } := by
  refine wpAny_pyIter_range (IsRange.new ..) (small_one h1 h2 h3 h4) ?_
  have I1 : Inv X pins σ H { s with heap := s.heap.push { cls := .type "range", data := .fields #[.int lo t, .int hi u, .int 1 v] }, toks := tk } := I.kept fun b o e => Heap.get?_push_of_some _ e
  refine ⟨(s.heap.push { cls := .type "range", data := .fields #[.int lo t, .int hi u, .int 1 v] }).objs.size, [(s.heap.push { cls := .type "range", data := .fields #[.int lo t, .int hi u, .int 1 v] }).objs.size], _, _, H, rfl,
    I1.kept (t' := tk) fun b o e => Heap.get?_push_of_some _ e, turn_range _ lo (hi - lo).toNat, ?_, fun b hb => ?_, q⟩
  · have e1 : lo + ((0 : Nat) : Int) * 1 = lo := by simp
    have e2 : (((hi - lo).toNat : Nat) : Int) - ((0 : Nat) : Int) = Builtin.Range.rangeSize lo hi 1 := by rw [rangeSize_one]; split <;> omega
    show IsRangeIter _ _ (lo + ((0 : Nat) : Int) * 1) ((((hi - lo).toNat : Nat) : Int) - ((0 : Nat) : Int)) 1
    rw [e1, e2]
    exact Heap.get?_push_size _ rfl
  · have e : b = (s.heap.push { cls := .type "range", data := .fields #[.int lo t, .int hi u, .int 1 v] }).objs.size := by simpa using hb
    subst e
    exact I1.fpOk (Nat.le_refl _) (I1.hok.fresh (Nat.le_refl _))
def iRng1 (ta : TA) : TI := fun σ H R => ta σ H fun vs H1 => ∃ j : Int, vs = [.int j] ∧ -(2 ^ 62) ≤ j ∧ j < 2 ^ 62 ∧ R (Itr 0 j.toNat) H1
theorem pi_range1 {a : Expr} {ta : TA} {p pos : Pos} (hg : Gl X "range") (hm : X.mg "range" = none) (ha : PA X [a] ta) (hs : starEach [a] X.env = [(false, eval a X.env)] := by rfl) : PI X tg (.Call (.Name "range" p) [a] [] pos) (iRng1 ta) := by
  intro pins s σ H R I h
  refine Call_ (ld_blt I hg hm boot_range (PyProof.Rows.callWith_type1 (thn (ha pos pins s σ H _ I h) fun us s1 ⟨vs, H1, I1, r1, q1⟩ => ?_) hs rfl))
  obtain ⟨j, e, q1, q2, q⟩ := q1
  subst e
  cases r1 with
  | cons r rr =>
    cases rr
    obtain ⟨t, rfl⟩ := r
    exact call_range_1 (range_it I1 (by omega) (by omega) q1 q2 (by simpa using q))
def tFor (wi : TI) (g : TG) (tb : TS) : TS := fun D σ H => wi σ H fun J H1 => ∃ W : Nat → Nat → St → Hp → Prop, (∃ m, W 0 m σ H1) ∧ ∀ i m σ H, W i m σ H →
  (J.stop i H ∧ D.nx σ H) ∨ (J.go i H ∧ ∃ N : St → Hp → Prop, (∀ σ' H', N σ' H' → ∃ m', m' < m ∧ W (i + 1) m' σ' H') ∧ ∀ x H', J.yld i H x H' → g x σ H' fun σ2 H2 => tb { D with nx := N, ct := N, bk := D.nx } σ2 H2)
def pinsAt (fp : List Addr) (h : Heap) : List (Addr × Obj) := fp.filterMap fun b => (h.get? b).map fun o => (b, o)
theorem mem_pinsAt {fp : List Addr} {h : Heap} {b : Addr} {o : Obj} (hb : b ∈ fp) (e : h.get? b = some o) : (b, o) ∈ pinsAt fp h := List.mem_filterMap.mpr ⟨b, hb, by rw [e]; rfl⟩
theorem of_pinsAt {fp : List Addr} {h : Heap} {p : Addr × Obj} (hp : p ∈ pinsAt fp h) : p.1 ∈ fp ∧ h.get? p.1 = some p.2 := by
  obtain ⟨b, hb, e⟩ := List.mem_filterMap.mp hp
  cases q : h.get? b with
  | none => rw [q] at e; cases e
  | some o =>
    rw [q] at e
    have e' : (b, o) = p := Option.some.inj e
    subst e'
    exact ⟨hb, q⟩
theorem Inv.pinned {pins : List (Addr × Obj)} {σ : St} {H : Hp} {s : Shared} {fp : List Addr} (I : Inv X pins σ H s) (hf : ∀ b ∈ fp, FpOk X pins H b) (ho : ∀ b ∈ fp, ∃ o, s.heap.get? b = some o ∧ ∀ v, o.data ≠ .cell v) : Inv X (pins ++ pinsAt fp s.heap) σ H s :=
  I.pins_of fun p hp => (List.mem_append.mp hp).elim (fun z => I.pin p (List.mem_append_right _ z)) fun z => by
    obtain ⟨hb, e⟩ := of_pinsAt z
    obtain ⟨f0, f1, f2, _⟩ := hf p.1 hb
    obtain ⟨o, e', d⟩ := ho p.1 hb
    rw [e] at e'; cases e'
    exact ⟨e, f0, f1, f2, d⟩
theorem Inv.unpinned {pins pl : List (Addr × Obj)} {σ : St} {H : Hp} {s : Shared} (I : Inv X (pins ++ pl) σ H s) : Inv X pins σ H s := I.pins_of fun p hp => I.pin p (List.mem_append_right _ (List.mem_append_left _ hp))
theorem ps_for {iter : Expr} {body : List Stmt} {wi : TI} {g : TG} {tb : TS} {pos : Pos} (hp : PassesOwn (model X.prog X.w) X.A X.env X.xe) (hc : X.calm = true) (hi : PI X tg iter wi) (hg : PG X tg g) (hb : PSs X body tb)
    (hs : ∀ x, foldedSetIterable iter X.env x = pure x := by intro _; rfl) : PS X (.For tg iter body [] pos) (tFor wi g tb) := by
  intro pins s σ H D I h
  refine wpAny_For (thn (hi pins s σ H _ I h) fun v s1 h1 => thn h1 fun itv s2 h2 => ?_) hs
  obtain ⟨it, fp, tn, J, H2, e, I2, T, st2, f2, W, ⟨m0, w0⟩, turn⟩ := h2
  subst e
  have stat : ∀ {H' : Hp}, (∀ b ∈ fp, H' b = none) → ∀ b ∈ fp, FpOk X pins H' b := fun hn b hb => ⟨hn b hb, (f2 b hb).2⟩
  refine codeAny_forLoop_any (fun n s' => ∃ i σ' H', Inv X pins σ' H' s' ∧ tn i s'.heap ∧ (∀ b ∈ fp, H' b = none) ∧ W i n σ' H') ?_ m0 ⟨0, σ, H2, I2, st2, fun b hb => (f2 b hb).1, w0⟩
  rintro n s3 ⟨i, σ3, H3, I3, st3, fr3, w3⟩
  rcases turn i n σ3 H3 w3 with ⟨stop, qn⟩ | ⟨go, N, hN, step⟩
  · refine wpAny_passesOwn hp (thn (T.done X rfl rfl rfl hc i pins s3 σ3 H3 X.xe I3 (stat fr3) st3 stop) fun r s4 ⟨hr, I4⟩ => ?_)
    subst hr
    exact wpAny_execs_nil ⟨σ3, H3, I4, qn⟩
  · refine wpAny_passesOwn hp (thn (T.item X rfl rfl rfl hc i pins s3 σ3 H3 X.xe I3 (stat fr3) st3 go) fun r s4 ⟨u, hr, h4⟩ => ?_)
    subst hr
    refine wpAny_passesOwn hp (thn h4 fun _ s5 ⟨x, H5, I5, r5, y5, st5, fr5⟩ => ?_)
    have I5' := I5.pinned (stat fr5) (T.obj _ _ st5)
    refine wpAny_passesOwn hp (thn (hg _ s5 σ3 H5 x u _ I5' r5 (step x H5 y5)) fun _ s6 ⟨σ6, H6, I6, q6⟩ => ?_)
    refine wpAny_passesOwn hp (thn (hb _ s6 σ6 H6 _ I6 q6) fun f s7 q7 => ?_)
    have again : ∀ {σ7 : St} {H7 : Hp}, Inv X (pins ++ pinsAt fp s5.heap) σ7 H7 s7 → N σ7 H7 → ∃ m, m < n ∧ ∃ i σ' H', Inv X pins σ' H' s7 ∧ tn i s7.heap ∧ (∀ b ∈ fp, H' b = none) ∧ W i m σ' H' := fun {σ7 H7} I7 n7 => by
      obtain ⟨m', hm, w7⟩ := hN σ7 H7 n7
      refine ⟨m', hm, i + 1, σ7, H7, I7.unpinned, T.keep _ _ _ st5 fun b hb o e => (I7.pin (b, o) (List.mem_append_right _ (List.mem_append_right _ (mem_pinsAt hb e)))).1, fun b hb => ?_, w7⟩
      obtain ⟨o, e, d⟩ := T.obj _ _ st5 b hb
      exact (I7.pin (b, o) (List.mem_append_right _ (List.mem_append_right _ (mem_pinsAt hb e)))).2.1
    cases f with
    | next => obtain ⟨σ7, H7, I7, n7⟩ := q7; exact again I7 n7
    | cont => obtain ⟨σ7, H7, I7, n7⟩ := q7; exact again I7 n7
    | brk => obtain ⟨σ7, H7, I7, q7⟩ := q7; exact ⟨σ7, H7, I7.unpinned, q7⟩
    | ret v => obtain ⟨x7, σ7, H7, I7, r7, q7⟩ := q7; exact ⟨x7, σ7, H7, I7.unpinned, r7, q7⟩
end
theorem for_list {K : PySem.W.Frag} {a : Addr} {xs : List V} {g : TG} {tb : TS} {D : Ends} {σ : St} {H : Hp} (Pv : Nat → St → Hp → Prop) (h0 : Pv 0 σ H) (hl : ∀ i σ H, i ≤ xs.length → Pv i σ H → SqL K H a xs)
    (hs : ∀ i x σ H, xs[i]? = some x → Pv i σ H → g x σ H fun σ2 H2 => tb { D with nx := Pv (i + 1), ct := Pv (i + 1), bk := D.nx } σ2 H2) (hd : ∀ σ H, Pv xs.length σ H → D.nx σ H) :
    ∃ W : Nat → Nat → St → Hp → Prop, (∃ m, W 0 m σ H) ∧ ∀ i m σ H, W i m σ H →
      ((Itl K a).stop i H ∧ D.nx σ H) ∨ ((Itl K a).go i H ∧ ∃ N : St → Hp → Prop, (∀ σ' H', N σ' H' → ∃ m', m' < m ∧ W (i + 1) m' σ' H') ∧ ∀ x H', (Itl K a).yld i H x H' → g x σ H' fun σ2 H2 => tb { D with nx := N, ct := N, bk := D.nx } σ2 H2) := by
  refine ⟨fun i m σ H => m = xs.length - i ∧ i ≤ xs.length ∧ Pv i σ H, ⟨xs.length, by simp, Nat.zero_le _, h0⟩, ?_⟩
  rintro i m σ H ⟨rfl, hi, p⟩
  have q := hl i σ H hi p
  by_cases hlt : i < xs.length
  · refine .inr ⟨⟨xs, xs[i], q, by simp [hlt]⟩, Pv (i + 1), fun σ' H' p' => ⟨xs.length - (i + 1), by omega, rfl, hlt, p'⟩, fun x H' y => ?_⟩
    obtain ⟨e, y⟩ := y
    subst e
    exact hs i x σ _ (y xs q) p
  · have e : i = xs.length := by omega
    subst e
    exact .inl ⟨⟨xs, q, Nat.le_refl _⟩, hd σ H p⟩
theorem for_tup {K : PySem.W.Frag} {a : Addr} {xs : List V} {g : TG} {tb : TS} {D : Ends} {σ : St} {H : Hp} (Pv : Nat → St → Hp → Prop) (h0 : Pv 0 σ H) (hl : ∀ i σ H, i ≤ xs.length → Pv i σ H → SqT K H a xs)
    (hs : ∀ i x σ H, xs[i]? = some x → Pv i σ H → g x σ H fun σ2 H2 => tb { D with nx := Pv (i + 1), ct := Pv (i + 1), bk := D.nx } σ2 H2) (hd : ∀ σ H, Pv xs.length σ H → D.nx σ H) :
    ∃ W : Nat → Nat → St → Hp → Prop, (∃ m, W 0 m σ H) ∧ ∀ i m σ H, W i m σ H →
      ((Itt K a).stop i H ∧ D.nx σ H) ∨ ((Itt K a).go i H ∧ ∃ N : St → Hp → Prop, (∀ σ' H', N σ' H' → ∃ m', m' < m ∧ W (i + 1) m' σ' H') ∧ ∀ x H', (Itt K a).yld i H x H' → g x σ H' fun σ2 H2 => tb { D with nx := N, ct := N, bk := D.nx } σ2 H2) := by
  refine ⟨fun i m σ H => m = xs.length - i ∧ i ≤ xs.length ∧ Pv i σ H, ⟨xs.length, by simp, Nat.zero_le _, h0⟩, ?_⟩
  rintro i m σ H ⟨rfl, hi, p⟩
  have q := hl i σ H hi p
  by_cases hlt : i < xs.length
  · refine .inr ⟨⟨xs, xs[i], q, by simp [hlt]⟩, Pv (i + 1), fun σ' H' p' => ⟨xs.length - (i + 1), by omega, rfl, hlt, p'⟩, fun x H' y => ?_⟩
    obtain ⟨e, y⟩ := y
    subst e
    exact hs i x σ _ (y xs q) p
  · have e : i = xs.length := by omega
    subst e
    exact .inl ⟨⟨xs, q, Nat.le_refl _⟩, hd σ H p⟩
theorem for_range {lo : Int} {n : Nat} {g : TG} {tb : TS} {D : Ends} {σ : St} {H : Hp} (Pv : Nat → St → Hp → Prop) (h0 : Pv 0 σ H)
    (hs : ∀ i σ H, i < n → Pv i σ H → g (.int (lo + i)) σ H fun σ2 H2 => tb { D with nx := Pv (i + 1), ct := Pv (i + 1), bk := D.nx } σ2 H2) (hd : ∀ σ H, Pv n σ H → D.nx σ H) :
    ∃ W : Nat → Nat → St → Hp → Prop, (∃ m, W 0 m σ H) ∧ ∀ i m σ H, W i m σ H →
      ((Itr lo n).stop i H ∧ D.nx σ H) ∨ ((Itr lo n).go i H ∧ ∃ N : St → Hp → Prop, (∀ σ' H', N σ' H' → ∃ m', m' < m ∧ W (i + 1) m' σ' H') ∧ ∀ x H', (Itr lo n).yld i H x H' → g x σ H' fun σ2 H2 => tb { D with nx := N, ct := N, bk := D.nx } σ2 H2) := by
  refine ⟨fun i m σ H => m = n - i ∧ i ≤ n ∧ Pv i σ H, ⟨n, by simp, Nat.zero_le _, h0⟩, ?_⟩
  rintro i m σ H ⟨rfl, hi, p⟩
  by_cases hlt : i < n
  · refine .inr ⟨hlt, Pv (i + 1), fun σ' H' p' => ⟨n - (i + 1), by omega, rfl, hlt, p'⟩, fun x H' y => ?_⟩
    obtain ⟨e, y⟩ := y
    subst e y
    exact hs i σ _ hlt p
  · have e : i = n := by omega
    subst e
    exact .inl ⟨Nat.le_refl _, hd σ H p⟩
end L2
namespace L2
open PySem PySem.Spec PyProof.Rows
abbrev R2 := V → V → Hp → VK → Prop
def OpR (X : Cx) (f : Value → Value → Sem Value) (r : R2) : Prop :=
  ∀ (pins : List (Addr × Obj)) (s : Shared) (σ : St) (H : Hp) (x y : V) (v u : Value) (Q : VK), Inv X pins σ H s → RelV x v → RelV y u → r x y H Q →
    wpAny (model X.prog X.w) X.A (f v u) (EP X pins σ Q) X.xe s
def CallR (X : Cx) (f : Value) (r : List V → Hp → VK → Prop) : Prop :=
  ∀ (pins : List (Addr × Obj)) (s : Shared) (σ : St) (H : Hp) (xs : List V) (us : List Value) (Q : VK), Inv X pins σ H s → Vals xs us → r xs H Q →
    wpAny (model X.prog X.w) X.A (call f us) (EP X pins σ Q) X.xe s
def tOp (r : R2) (ta tb : TE) : TE := fun σ H Q => ta σ H fun x H1 => tb σ H1 fun y H2 => r x y H2 Q
def rI (C : Int → Int → Prop) (g : Int → Int → V) : R2 := fun x y H Q => ∃ i j, x = .int i ∧ y = .int j ∧ C i j ∧ Q (g i j) H
def rI0 (g : Int → Int → V) : R2 := fun x y H Q => ∃ i j, x = .int i ∧ y = .int j ∧ Q (g i j) H
section
variable {X : Cx} {a b c : Expr} {ta tb tc : TE} {pos : Pos}
theorem binT (ha : PE X a ta) (hb : PE X b tb) {pins : List (Addr × Obj)} {s : Shared} {σ : St} {H : Hp} {R : V → V → Hp → Prop} (I : Inv X pins σ H s)
    (h : ta σ H fun x H1 => tb σ H1 fun y H2 => R x y H2) {Q : Value → Shared → Prop} {f : Value → Value → Sem Value}
    (hf : ∀ v u s2 x y H2, Inv X pins σ H2 s2 → RelV x v → RelV y u → R x y H2 → wpAny (model X.prog X.w) X.A (f v u) Q X.xe s2) :
    wpAny (model X.prog X.w) X.A (eval a X.env) (fun v s₁ => wpAny (model X.prog X.w) X.A (eval b X.env) (fun u s₂ => wpAny (model X.prog X.w) X.A (f v u) Q X.xe s₂) X.xe s₁) X.xe s := by
  refine thn (ha pins s σ H _ I h) fun v s1 ⟨x, H1, I1, r1, q1⟩ => ?_
  refine thn (hb pins s1 σ H1 _ I1 q1) fun u s2 ⟨y, H2, I2, r2, q2⟩ => ?_
  exact hf v u s2 x y H2 I2 r1 r2 q2
theorem pe_op {op : Operator} {r : R2} (ho : OpR X (binaryOp op) r) (ha : PE X a ta) (hb : PE X b tb) : PE X (.BinOp a op b pos) (tOp r ta tb) := by
  intro pins s σ H Q I h
  exact wpAny_BinOp (binT ha hb I h fun v u s2 x y H2 I2 rx ry q => ho pins s2 σ H2 x y v u Q I2 rx ry q)
theorem opI {f : Value → Value → Sem Value} {C : Int → Int → Prop} {g : Int → Int → Int}
    (rule : ∀ (i j : Int) (t u : Tok) (s : Shared) (Q : Value → Shared → Prop) (E : Value → Shared → Prop), C i j → Q (.int (g i j) s.toks) { s with toks := s.toks + 1 } → wpAny (model X.prog X.w) X.A (f (.int i t) (.int j u)) Q E s) :
    OpR X f (rI C fun i j => .int (g i j)) := by
  intro pins s σ H x y v u Q I rx ry h
  obtain ⟨i, j, rfl, rfl, hc, q⟩ := h
  obtain ⟨t, rfl⟩ := rx
  obtain ⟨t', rfl⟩ := ry
  exact rule i j t t' s _ _ hc ⟨.int (g i j), H, I.tok _, ⟨_, rfl⟩, q⟩
theorem opI0 {f : Value → Value → Sem Value} {g : Int → Int → Int}
    (rule : ∀ (i j : Int) (t u : Tok) (s : Shared) (Q : Value → Shared → Prop) (E : Value → Shared → Prop), Q (.int (g i j) s.toks) { s with toks := s.toks + 1 } → wpAny (model X.prog X.w) X.A (f (.int i t) (.int j u)) Q E s) :
    OpR X f (rI0 fun i j => .int (g i j)) := by
  intro pins s σ H x y v u Q I rx ry h
  obtain ⟨i, j, rfl, rfl, q⟩ := h
  obtain ⟨t, rfl⟩ := rx
  obtain ⟨t', rfl⟩ := ry
  exact rule i j t t' s _ _ ⟨.int (g i j), H, I.tok _, ⟨_, rfl⟩, q⟩
theorem opB0 {f : Value → Value → Sem Value} {g : Int → Int → Bool}
    (rule : ∀ (i j : Int) (t u : Tok) (s : Shared) (Q : Value → Shared → Prop) (E : Value → Shared → Prop), Q (.bool (g i j)) s → wpAny (model X.prog X.w) X.A (f (.int i t) (.int j u)) Q E s) :
    OpR X f (rI0 fun i j => .bl (g i j)) := by
  intro pins s σ H x y v u Q I rx ry h
  obtain ⟨i, j, rfl, rfl, q⟩ := h
  obtain ⟨t, rfl⟩ := rx
  obtain ⟨t', rfl⟩ := ry
  exact rule i j t t' s _ _ ⟨.bl (g i j), H, I, rfl, q⟩
def CDiv (i j : Int) : Prop := 0 < j ∧ j < 1073741824
def CPow (i j : Int) : Prop := 0 ≤ j ∧ j ≤ 1000000 ∧ i.natAbs < 2 ^ 64
def CMul (i j : Int) : Prop := (-(2 ^ 64) < i ∧ i < 2 ^ 64) ∨ (-(2 ^ 64) < j ∧ j < 2 ^ 64)
theorem CMul.ok {i j : Int} (h : CMul i j) : IntMulOk i j := by
  rcases h with ⟨h1, h2⟩ | ⟨h1, h2⟩
  · exact .of_left (intBits_le_64 h1 h2)
  · exact .of_right (intBits_le_64 h1 h2)
theorem op_add : OpR X (binaryOp .Add) (rI0 fun i j => .int (i + j)) := opI0 fun _ _ _ _ _ _ _ q => add_int q
theorem op_sub : OpR X (binaryOp .Sub) (rI0 fun i j => .int (i - j)) := opI0 fun _ _ _ _ _ _ _ q => sub_int q
theorem op_mul : OpR X (binaryOp .Mult) (rI CMul fun i j => .int (i * j)) := opI fun _ _ _ _ _ _ _ hc q => mul_int q hc.ok
theorem op_fdiv : OpR X (binaryOp .FloorDiv) (rI CDiv fun i j => .int (i / j)) := opI fun i j _ _ _ _ _ hc q => by
  have h1 : (0 : Int) < j := hc.1
  have h2 : j < 1073741824 := hc.2
  exact floordiv_int (by omega) (by rw [Int.fdiv_eq_ediv_of_nonneg i (by omega)]; exact q) (.inl (PyProof.noPylong_small (by omega)))
theorem op_mod : OpR X (binaryOp .Mod) (rI (fun _ j => 0 < j) fun i j => .int (i % j)) := opI fun i j _ _ _ _ _ hc q => by
  have h1 : (0 : Int) < j := hc
  exact mod_int' (by omega) (by rw [Int.fmod_eq_emod_of_nonneg i (by omega)]; exact q)
theorem op_pow : OpR X (binaryOp .Pow) (rI CPow fun i j => .int (i ^ j.toNat)) := opI fun _ _ _ _ _ _ _ hc q => pow_int_small hc.1 hc.2.1 hc.2.2 q
end
def scal : V → V → Bool
  | .non, .non => true | .non, .int _ => true | .int _, .non => true | .non, .bl _ => true | .bl _, .non => true | .non, .str _ => true | .str _, .non => true
  | .int _, .int _ => true | .bl _, .bl _ => true | .str _, .str _ => true | .byt _, .byt _ => true
  | .int _, .str _ => true | .str _, .int _ => true | .bl _, .str _ => true | .str _, .bl _ => true
  | _, _ => false
def rEq : R2 := fun x y H Q => scal x y = true ∧ Q (.bl (decide (x = y))) H
def rNe : R2 := fun x y H Q => scal x y = true ∧ Q (.bl (!decide (x = y))) H
theorem dec_int {i j : Int} : decide (V.int i = V.int j) = (i == j) := by
  rw [Bool.eq_iff_iff]
  simp
theorem dec_bl {i j : Bool} : decide (V.bl i = V.bl j) = (i == j) := by
  rw [Bool.eq_iff_iff]
  simp
theorem dec_str {i j : Str} : decide (V.str i = V.str j) = (i == j) := by
  rw [Bool.eq_iff_iff]
  simp
theorem dec_byt {i j : Array UInt8} : decide (V.byt i = V.byt j) = (i.toList == j.toList) := by
  rw [Bool.eq_iff_iff]
  cases i
  cases j
  simp
section
variable {X : Cx} {a b c : Expr} {ta tb tc : TE} {pos : Pos}
theorem fin_bl {pins : List (Addr × Obj)} {σ : St} {H : Hp} {s : Shared} {Q : VK} {k k' : Bool} (I : Inv X pins σ H s) (q : Q (.bl k) H) (e : k = k') : EP X pins σ Q (.bool k') s := by
  subst e
  exact ⟨.bl k, H, I, rfl, q⟩
theorem op_eq : OpR X (compareOp .Eq) rEq := by
  intro pins s σ H x y v u Q I rx ry h
  obtain ⟨hs, q⟩ := h
  cases x with
  | non =>
    cases rx
    cases y with
    | non => cases ry; exact PySem.EqNone.eq_none_none (fin_bl I q (by simp))
    | bl j => cases ry; exact PySem.EqNone.eq_none_bool (fin_bl I q (by simp))
    | int j => obtain ⟨t', rfl⟩ := ry; exact PySem.EqNone.eq_none_int (fin_bl I q (by simp))
    | str j => obtain ⟨t', rfl⟩ := ry; exact PySem.EqNone.eq_none_str (fin_bl I q (by simp))
    | _ => exact absurd (show false = true from hs) Bool.false_ne_true
  | bl i =>
    cases rx
    cases y with
    | non => cases ry; exact PySem.EqNone.eq_bool_none (fin_bl I q (by simp))
    | bl j => cases ry; exact eq_bool (fin_bl I q dec_bl)
    | str j => obtain ⟨t', rfl⟩ := ry; exact PySem.EqMixed.eq_bool_str (fin_bl I q (by simp))
    | _ => exact absurd (show false = true from hs) Bool.false_ne_true
  | int i =>
    obtain ⟨t, rfl⟩ := rx
    cases y with
    | non => cases ry; exact PySem.EqNone.eq_int_none (fin_bl I q (by simp))
    | int j => obtain ⟨t', rfl⟩ := ry; exact eq_int (fin_bl I q dec_int)
    | str j => obtain ⟨t', rfl⟩ := ry; exact PySem.EqMixed.eq_int_str (fin_bl I q (by simp))
    | _ => exact absurd (show false = true from hs) Bool.false_ne_true
  | str i =>
    obtain ⟨t, rfl⟩ := rx
    cases y with
    | non => cases ry; exact PySem.EqNone.eq_str_none (fin_bl I q (by simp))
    | bl j => cases ry; exact PySem.EqMixed.eq_str_bool (fin_bl I q (by simp))
    | int j => obtain ⟨t', rfl⟩ := ry; exact PySem.EqMixed.eq_str_int (fin_bl I q (by simp))
    | str j => obtain ⟨t', rfl⟩ := ry; exact eq_str (fin_bl I q dec_str)
    | _ => exact absurd (show false = true from hs) Bool.false_ne_true
  | byt i =>
    obtain ⟨t, rfl⟩ := rx
    cases y with
    | byt j => obtain ⟨t', rfl⟩ := ry; exact PySem.W.eq_bytes (fin_bl I q dec_byt)
    | _ => exact absurd (show false = true from hs) Bool.false_ne_true
  | _ => cases y <;> exact absurd (show false = true from hs) Bool.false_ne_true
theorem op_ne : OpR X (compareOp .NotEq) rNe := by
  intro pins s σ H x y v u Q I rx ry h
  obtain ⟨hs, q⟩ := h
  cases x with
  | non =>
    cases rx
    cases y with
    | non => cases ry; exact PySem.EqNone.ne_none_none (fin_bl I q (by simp))
    | bl j => cases ry; exact PySem.EqNone.ne_none_bool (fin_bl I q (by simp))
    | int j => obtain ⟨t', rfl⟩ := ry; exact PySem.EqNone.ne_none_int (fin_bl I q (by simp))
    | str j => obtain ⟨t', rfl⟩ := ry; exact PySem.EqNone.ne_none_str (fin_bl I q (by simp))
    | _ => exact absurd (show false = true from hs) Bool.false_ne_true
  | bl i =>
    cases rx
    cases y with
    | non => cases ry; exact PySem.EqNone.ne_bool_none (fin_bl I q (by simp))
    | bl j => cases ry; exact ne_bool (fin_bl I q (congrArg not dec_bl))
    | str j => obtain ⟨t', rfl⟩ := ry; exact PySem.EqMixed.ne_bool_str (fin_bl I q (by simp))
    | _ => exact absurd (show false = true from hs) Bool.false_ne_true
  | int i =>
    obtain ⟨t, rfl⟩ := rx
    cases y with
    | non => cases ry; exact PySem.EqNone.ne_int_none (fin_bl I q (by simp))
    | int j => obtain ⟨t', rfl⟩ := ry; exact ne_int (fin_bl I q (congrArg not dec_int))
    | str j => obtain ⟨t', rfl⟩ := ry; exact PySem.EqMixed.ne_int_str (fin_bl I q (by simp))
    | _ => exact absurd (show false = true from hs) Bool.false_ne_true
  | str i =>
    obtain ⟨t, rfl⟩ := rx
    cases y with
    | non => cases ry; exact PySem.EqNone.ne_str_none (fin_bl I q (by simp))
    | bl j => cases ry; exact PySem.EqMixed.ne_str_bool (fin_bl I q (by simp))
    | int j => obtain ⟨t', rfl⟩ := ry; exact PySem.EqMixed.ne_str_int (fin_bl I q (by simp))
    | str j => obtain ⟨t', rfl⟩ := ry; exact ne_str (fin_bl I q (congrArg not dec_str))
    | _ => exact absurd (show false = true from hs) Bool.false_ne_true
  | byt i =>
    obtain ⟨t, rfl⟩ := rx
    cases y with
    | byt j => obtain ⟨t', rfl⟩ := ry; exact PySem.W.ne_bytes (fin_bl I q (congrArg not dec_byt))
    | _ => exact absurd (show false = true from hs) Bool.false_ne_true
  | _ => cases y <;> exact absurd (show false = true from hs) Bool.false_ne_true
theorem op_lt : OpR X (compareOp .Lt) (rI0 fun i j => .bl (decide (i < j))) := opB0 fun _ _ _ _ _ _ _ q => lt_int q
theorem op_le : OpR X (compareOp .LtE) (rI0 fun i j => .bl (decide (i ≤ j))) := opB0 fun _ _ _ _ _ _ _ q => le_int q
theorem op_gt : OpR X (compareOp .Gt) (rI0 fun i j => .bl (decide (j < i))) := opB0 fun _ _ _ _ _ _ _ q => gt_int q
theorem op_isN : OpR X (compareOp .Is) (fun x y H Q => y = .non ∧ Q (.bl (decide (x = .non))) H) := by
  intro pins s σ H x y v u Q I rx ry h
  obtain ⟨rfl, q⟩ := h
  cases ry
  refine is_none_gen (fin_bl I q ?_)
  cases x <;> first
    | (cases rx; rfl)
    | (obtain ⟨t, rfl⟩ := rx; rfl)
theorem op_notN : OpR X (compareOp .IsNot) (fun x y H Q => y = .non ∧ Q (.bl (!decide (x = .non))) H) := by
  intro pins s σ H x y v u Q I rx ry h
  obtain ⟨rfl, q⟩ := h
  cases ry
  refine isnot_none_gen (fin_bl I q ?_)
  cases x <;> first
    | (cases rx; rfl)
    | (obtain ⟨t, rfl⟩ := rx; rfl)
theorem nomark (b : Expr) {op : CmpOp} (h : op ≠ .In := by decide) (h2 : op ≠ .NotIn := by decide) : behindInMarks op b = false := by
  have e1 : (op == CmpOp.In) = false := by cases op <;> first | rfl | exact absurd rfl h
  have e2 : (op == CmpOp.NotIn) = false := by cases op <;> first | rfl | exact absurd rfl h2
  cases b <;> simp [behindInMarks, e1, e2]
theorem pe_cmpR {op : CmpOp} {r : R2} (ho : OpR X (compareOp op) r) (ha : PE X a ta) (hb : PE X b tb) (hm : behindInMarks op b = false) : PE X (.Compare a [op] [b] pos) (tOp r ta tb) := by
  intro pins s σ H Q I h
  exact wpAny_Compare1 (binT ha hb I h fun v u s2 x y H2 I2 rx ry q => ho pins s2 σ H2 x y v u Q I2 rx ry q) hm
def tTest (t : TE) : TT := fun σ H Q => t σ H fun x H' => ∃ k, x = .bl k ∧ Q k H'
theorem pt_cmpR {op : CmpOp} {r : R2} (ho : OpR X (compareOp op) r) (ha : PE X a ta) (hb : PE X b tb) (hm : behindInMarks op b = false) : PT X (.Compare a [op] [b] pos) (tTest (tOp r ta tb)) := by
  intro pins s σ H Q I h
  refine wpAny_isTrue_Compare1 (thn (ha pins s σ H _ I h) fun v s1 ⟨x, H1, I1, r1, q1⟩ => thn (hb pins s1 σ H1 _ I1 q1) fun u s2 ⟨y, H2, I2, r2, q2⟩ =>
    thn (ho pins s2 σ H2 x y v u _ I2 r1 r2 q2) fun c s3 ⟨z, H3, I3, r3, k, e, q3⟩ => ?_) hm
  subst e
  cases r3
  exact wpAny_truthy_bool ⟨H3, I3, q3⟩
def tChain (r r' : R2) (ta tb tc : TE) : TE := fun σ H Q => ta σ H fun x H1 => tb σ H1 fun y H2 => r x y H2 fun z H3 => ∃ k, z = .bl k ∧
  (if k = true then tc σ H3 fun w' H4 => r' y w' H4 Q else Q (.bl false) H3)
theorem pt_chain {op op' : CmpOp} {r r' : R2} (ho : OpR X (compareOp op) r) (ho' : OpR X (compareOp op') r') (ha : PE X a ta) (hb : PE X b tb) (hc : PE X c tc)
    (hm : lastMarks [op, op'] [b, c] = false := by with_unfolding_all rfl) : PT X (.Compare a [op, op'] [b, c] pos) (tTest (tChain r r' ta tb tc)) := by
  intro pins s σ H Q I h
  refine isTrue_chain (thn (ha pins s σ H _ I h) fun v s1 ⟨x, H1, I1, r1, q1⟩ => test_link (thn (hb pins s1 σ H1 _ I1 q1) fun u s2 ⟨y, H2, I2, r2, q2⟩ =>
    thn (ho pins s2 σ H2 x y v u _ I2 r1 r2 q2) fun d s3 ⟨z, H3, I3, r3, k, e, q3⟩ => ?_)) hm
  subst e
  cases r3
  refine wpAny_truthy_bool ?_
  cases k with
  | false =>
    obtain ⟨k', e', q'⟩ := q3
    cases e'
    exact ite_ff ⟨H3, I3, q'⟩
  | true =>
    refine ite_tt (test_last (thn (hc pins s3 σ H3 _ I3 q3) fun w' s4 ⟨z', H4, I4, r4, q4⟩ => thn (ho' pins s4 σ H4 y z' u w' _ I4 r2 r4 q4) fun d' s5 ⟨z2, H5, I5, r5, k2, e2, q5⟩ => ?_))
    subst e2
    cases r5
    exact wpAny_truthy_bool ⟨H5, I5, q5⟩
theorem line63 : (sizeLine : Nat) < 2 ^ 63 := by rw [sizeLine_eq]; decide
theorem vals1 {x : V} {us : List Value} (r : Vals [x] us) : ∃ u, us = [u] ∧ RelV x u := by
  cases r with
  | cons r1 r2 => cases r2; exact ⟨_, rfl, r1⟩
theorem vals2 {x y : V} {us : List Value} (r : Vals [x, y] us) : ∃ u w', us = [u, w'] ∧ RelV x u ∧ RelV y w' := by
  cases r with
  | cons r1 r2 =>
    cases r2 with
    | cons r3 r4 => cases r4; exact ⟨_, _, rfl, r1, r3⟩
theorem call_min2 (hc : X.calm = true) : CallR X (.builtin "min") (fun xs H Q => ∃ i j, xs = [.int i, .int j] ∧ Q (.int (if j < i then j else i)) H) := by
  intro pins s σ H xs us Q I r h
  obtain ⟨i, j, rfl, q⟩ := h
  obtain ⟨u, w', rfl, ⟨t, rfl⟩, ⟨t', rfl⟩⟩ := vals2 r
  refine min_two_ints (I.ok.hd hc) fun h' tk k => ⟨_, H, I.kept k, ?_, q⟩
  by_cases hj : j < i
  · rw [if_pos hj, if_pos hj]; exact ⟨_, rfl⟩
  · rw [if_neg hj, if_neg hj]; exact ⟨_, rfl⟩
theorem call_int1 : CallR X (.type "int") (fun xs H Q => (∃ i, xs = [.int i] ∧ Q (.int i) H) ∨ ∃ k, xs = [.bl k] ∧ Q (.int (if k then 1 else 0)) H) := by
  intro pins s σ H xs us Q I r h
  rcases h with ⟨i, rfl, q⟩ | ⟨k, rfl, q⟩
  · obtain ⟨u, rfl, t, rfl⟩ := vals1 r
    exact call_int_int ⟨.int i, H, I, ⟨_, rfl⟩, q⟩
  · obtain ⟨u, rfl, r1⟩ := vals1 r
    cases r1
    exact call_int_bool ⟨.int (if k then 1 else 0), H, I.tok _, ⟨_, rfl⟩, q⟩
end
end L2
namespace L2
open PySem PySem.Spec PyProof.Rows
structure ObjM (h : Heap) (x dx C : Addr) (mA : Str → Option Value) : Prop where
  obj : h.get? x = some (PySem.W.instObj C dx)
  ns : h.Ns1 dx mA
  ne : dx ≠ x
theorem lookIn_ns {h : Heap} {dx : Addr} {mA : Str → Option Value} (n : h.Ns1 dx mA) : ∃ od, h.get? dx = some od ∧ ∀ name, PySem.W.lookIn name od = some (mA name) := by
  obtain ⟨o, es, ep, ho, hd, hk, _, hm⟩ := n
  refine ⟨o, ho, fun name => ?_⟩
  have e := hm name
  unfold nsFind findBy at e
  rw [← Array.find?_toList] at e
  unfold PySem.W.lookIn
  rw [hd]
  dsimp only
  split
  · rename_i y q
    rw [q] at e
    exact congrArg some e
  · rename_i q
    rw [q] at e
    have a : es.toList.any (·.refKey) = false := by
      rw [List.any_eq_false]
      intro y hy
      obtain ⟨z, t, hkey⟩ := hk y (Array.mem_toList_iff.mp hy)
      simp [DictEntry.refKey, hkey]
    have a' : ¬ es.toList.any (·.refKey) = true := by rw [a]; exact Bool.false_ne_true
    rw [if_neg a']
    exact congrArg some e
theorem ObjM.look {h : Heap} {x dx C : Addr} {mA : Str → Option Value} (I : ObjM h x dx C mA) : ∃ od, PySem.W.InstAt h x (PySem.W.instObj C dx) C (some od) ∧ ∀ name, PySem.W.lookIn name od = some (mA name) :=
  let ⟨od, ho, hl⟩ := lookIn_ns I.ns
  ⟨od, ⟨I.obj, rfl, rfl, ho⟩, hl⟩
section
variable {prog : Program} {w : World} {A : Around} {E : Value → Shared → Prop} {s : Shared} {K : PySem.W.Frag} {x dx C f : Addr} {mA : Str → Option Value} {name : Str} {v : Value}
end
section
variable {P : Program} {w : World} {H H' : Hp} {h h' : Heap} {a C dx : Addr} {fs fs' : List (Str × V)}
end
structure Cls (K : PySem.W.Frag) (C : Addr) : Prop where
  pg : PySem.W.plainGet K C Str.empty = true
  hd : PySem.W.hasDictIn K C = true
  po : PySem.W.plainOver K C = true
  sa : PySem.W.findIn K (.ref C) "__setattr__" = some (some (.builtin "object.__setattr__"))
theorem Cls.get {K : PySem.W.Frag} {C : Addr} (c : Cls K C) (f : Str) : PySem.W.plainGet K C f = true := c.pg
section
variable {X : Cx} {pins : List (Addr × Obj)} {σ : St} {H : Hp} {s : Shared} {a C dx : Addr} {fs : List (Str × V)} {f : Str} {v : V} {A : Around} {E : Value → Shared → Prop}
end
section
variable {X : Cx} {o e value : Expr} {f : Str} {pos pos' tpos : Pos} {ta tv : TE}
end
section
variable {X : Cx} {pins : List (Addr × Obj)} {σ : St} {H : Hp} {s : Shared} {A : Around} {E : Value → Shared → Prop} {Q : Value → Shared → Prop} {c : Value} {b : Bool}
end
end L2
namespace L2
open PySem PySem.Spec PyProof.Rows
structure Room (k : Nat) (A : Around) : Prop where
  hd : A.handled = none
  dp : A.depth + 3 * k + 5 < recursionLimit
  un : A.units + 16 * k + 200 < cLine
theorem Room.mono {j k : Nat} {A : Around} (r : Room k A) (h : j ≤ k) : Room j A := ⟨r.hd, by have := r.dp; omega, by have := r.un; omega⟩
theorem Room.deeper {k : Nat} {A : Around} (r : Room (k + 1) A) (env : Env) : Room k (A.deeper env) :=
  ⟨r.hd, by have := r.dp; show A.depth + 1 + 3 * k + 5 < _; omega, by have := r.un; show A.units + 3 + 16 * k + 200 < _; omega⟩
theorem Room.in1 {k : Nat} {A : Around} (r : Room (k + 1) A) : Room k A.in1 :=
  ⟨r.hd, by have := r.dp; show A.depth + 3 * k + 5 < _; omega, by have := r.un; show A.units + 1 + 16 * k + 200 < _; omega⟩
theorem Room.depth {k : Nat} {A : Around} (r : Room k A) : A.depth < recursionLimit := by have := r.dp; omega
theorem Room.units {k : Nat} {A : Around} (r : Room k A) : A.units + 64 < cLine := by have := r.un; omega
def tNil : TA := fun _ H Q => Q [] H
def tCons (ta : TE) (tr : TA) : TA := fun σ H Q => ta σ H fun x H1 => tr σ H1 fun xs H2 => Q (x :: xs) H2
section
variable {X : Cx} {e : Expr} {es : List Expr} {te : TE} {t : TA} {pos : Pos}
theorem pa_nil : PA X [] tNil := fun _ _ _ _ H Q I h => Calls.spliced_nil ⟨[], H, I, .nil, h⟩
theorem pa_cons (ha : PE X e te) (hr : PA X es t) (hs : starEach (e :: es) X.env = (false, eval e X.env) :: starEach es X.env := by rfl) : PA X (e :: es) (tCons te t) := by
  intro pos pins s σ H Q I h
  rw [hs]
  show wpAny _ _ (spliced ((false, eval e X.env) :: backTo pos (starEach es X.env))) _ _ s
  refine Calls.spliced_cons (thn (ha pins s σ H _ I h) fun u s1 ⟨x, H1, I1, r1, q1⟩ => ?_)
  exact thn (hr pos pins s1 σ H1 _ I1 q1) fun us s2 ⟨xs, H2, I2, r2, q2⟩ => ⟨x :: xs, H2, I2, .cons r1 r2, q2⟩
def tTup (t : TA) : TE := fun σ H Q => t σ H fun xs H1 => xs.length ≤ sizeLine ∧ ∀ p, H1 p = none → Q (.ref p) (upd H1 p (.tup xs))
def tLst (t : TA) : TE := fun σ H Q => t σ H fun xs H1 => xs.length ≤ sizeLine ∧ ∀ p, H1 p = none → Q (.ref p) (upd H1 p (.lst xs))
theorem pe_tup {x1} (h : PA X es t) : PE X (.Tuple es x1 pos) (tTup t) := by
  intro pins s σ H Q I hq
  refine wpAny_Tuple_spliced (thn (h pos pins s σ H _ I hq) fun us s1 ⟨xs, H1, I1, r, z, q⟩ => ⟨by rw [← r.length]; exact z, ?_⟩)
  have hf : H1 s1.heap.objs.size = none := I1.hok.fresh (Nat.le_refl _)
  refine ⟨.ref s1.heap.objs.size, upd H1 s1.heap.objs.size (.tup xs), I1.laid (t' := s1.toks) (fun b u e => Heap.get?_push_of_some _ e) (Nat.le_refl _) ?_, rfl, q _ hf⟩
  exact ⟨z, us, r, ⟨_, Heap.get?_push_size _ rfl, rfl, rfl, _, rfl⟩⟩
theorem pe_lst (h : PA X es t) : PE X (.List es pos) (tLst t) := by
  intro pins s σ H Q I hq
  refine wpAny_List_spliced (thn (h pos pins s σ H _ I hq) fun us s1 ⟨xs, H1, I1, r, z, q⟩ => ⟨by rw [← r.length]; exact z, ?_⟩)
  have hf : H1 s1.heap.objs.size = none := I1.hok.fresh (Nat.le_refl _)
  refine ⟨.ref s1.heap.objs.size, upd H1 s1.heap.objs.size (.lst xs), I1.laid (t' := s1.toks) (fun b u e => Heap.get?_push_of_some _ e) (Nat.le_refl _) ?_, rfl, q _ hf⟩
  exact ⟨z, us, 0, r, Heap.get?_push_size _ rfl⟩
end
abbrev Sp := List V → Hp → VK → XK → Prop
abbrev CXT := List Env → Hp → Shared → XK → Value → Shared → Prop
structure Env0 (P : Program) (w : World) (K : PySem.W.Frag) (mg : Str → Option Value) (base : Heap) (A : Around) (outer : List Env) (s : Shared) (H : Hp) : Prop where
  frames : A.frames = some outer
  mod : Mod K mg base
  bs : ∀ b o, base.get? b = some o → s.heap.get? b = some o ∧ H b = none
  bsz : base.objs.size ≤ s.heap.objs.size
  funs : s.heap.FunFrames base outer
  frf : ∀ b ∈ frs outer, H b = none
  hok : HOk P w H s.heap
  bare : AllBare s.gens
def CE (outer : List Env) (P : Program) (w : World) (H : Hp) (s : Shared) (Q : VK) (u : Value) (s' : Shared) : Prop :=
  ∃ v H', s'.os = s.os ∧ AllBare s'.gens ∧ Un (frs outer) [] H H' s.heap s'.heap ∧ HOk P w H' s'.heap ∧ RelV v u ∧ Q v H'
def CR (CX : CXT) (outer : List Env) (P : Program) (w : World) (H : Hp) (s : Shared) (Q : VK) (E : XK) (r : Result) (s' : Shared) : Prop :=
  match r with
  | .ok (.ret u) => CE outer P w H s Q u s'
  | .ok _ => False
  | .error e => CX outer H s E e s'
structure FnOk (P : Program) (w : World) (K : PySem.W.Frag) (mg : Str → Option Value) (base : Heap) (CX : CXT) (k : Nat) (f : Addr) (fd : FuncData) (ps : List Str) (sp : Sp) : Prop where
  len : ∀ vs H Q E, sp vs H Q E → vs.length = ps.length
  run : ∀ (A : Around) (outer : List Env) (s : Shared) (H : Hp) (args : Args) (us : List Value) (vs : List V) (Q : VK) (E : XK), Room k A → Env0 P w K mg base A outer s H → BindsTo s fd args (ps.zip us) → Vals vs us → sp vs H Q E →
    codeAny (model P w) A (.call (.ref f) args) (CR CX outer P w H s Q E) s
theorem FnOk.mono {P : Program} {w : World} {K : PySem.W.Frag} {mg : Str → Option Value} {base : Heap} {CX : CXT} {j k : Nat} {f : Addr} {fd : FuncData} {ps : List Str} {sp : Sp} (F : FnOk P w K mg base CX j f fd ps sp) (h : j ≤ k) :
    FnOk P w K mg base CX k f fd ps sp := ⟨F.len, fun A outer s H args us vs Q E hr => F.run A outer s H args us vs Q E (hr.mono h)⟩
theorem FnOk.imp {P : Program} {w : World} {K : PySem.W.Frag} {mg : Str → Option Value} {base : Heap} {CX : CXT} {k : Nat} {f : Addr} {fd : FuncData} {ps : List Str} {sp sp' : Sp} (F : FnOk P w K mg base CX k f fd ps sp)
    (h : ∀ vs H Q E, sp' vs H Q E → sp vs H Q E) : FnOk P w K mg base CX k f fd ps sp' :=
  ⟨fun vs H Q E q => F.len vs H Q E (h _ _ _ _ q), fun A outer s H args us vs Q E hr he hb hv hs => F.run A outer s H args us vs Q E hr he hb hv (h _ _ _ _ hs)⟩
theorem Env0.in1 {P : Program} {w : World} {K : PySem.W.Frag} {mg : Str → Option Value} {base : Heap} {A : Around} {outer : List Env} {s : Shared} {H : Hp} (e : Env0 P w K mg base A outer s H) :
    Env0 P w K mg base A.in1 outer s H := ⟨e.frames, e.mod, e.bs, e.bsz, e.funs, e.frf, e.hok, e.bare⟩
section
variable {X : Cx} {pins : List (Addr × Obj)} {σ : St} {H : Hp} {s s' : Shared}
theorem Inv.env0 (I : Inv X pins σ H s) : Env0 X.prog X.w X.K X.mg X.base X.A X.stack s H :=
  ⟨I.ok.frames, I.ok.mod, I.bs, Nat.le_trans I.ok.bsz I.sz, I.stack, I.stkFree, I.hok, I.bare⟩
theorem Inv.after {Q : VK} {u : Value} (I : Inv X pins σ H s) (h : CE X.stack X.prog X.w H s Q u s') : EP X pins σ Q u s' := by
  obtain ⟨v, H', os, bare, un, hok, r, q⟩ := h
  obtain ⟨hh, g, d, t, os'⟩ := s'
  obtain rfl : os' = s.os := os
  exact ⟨v, H', I.call (h' := hh) (g' := g) (d' := d) (t' := t) (ch := []) un hok bare (fun b z => absurd z (by simp)), r, q⟩
end
def tCall (sp : Sp) (dvs : List V) (E : XK) (t : TA) : TE := fun σ H Q => t σ H fun vs H1 => sp (vs ++ dvs) H1 Q E
def Binds (K : PySem.W.Frag) (fd : FuncData) (ps : List Str) (ds : List Value) : Prop :=
  ∀ (s : Shared) (us : List Value), K.In s.heap → (us ++ ds).length = ps.length → BindsTo s fd ⟨us, []⟩ (ps.zip (us ++ ds))
theorem Binds.all {K : PySem.W.Frag} {fd : FuncData} {ps : List Str} (h : ∀ us : List Value, us.length = ps.length → bindArgs fd ⟨us, []⟩ = pure (ps.zip us)) : Binds K fd ps [] := fun s us _ hl => by
  rw [List.append_nil] at hl ⊢
  exact .of_eq (h us hl)
def Passes (CX : CXT) (X : Cx) (E : XK) : Prop := ∀ (pins : List (Addr × Obj)) (σ : St) (H : Hp) (s : Shared) (e : Value) (s' : Shared), Inv X pins σ H s → CX X.stack H s E e s' → X.xe e s'
section
variable {X : Cx} {CX : CXT} {k : Nat} {f C : Addr} {fd : FuncData} {ps : List Str} {sp : Sp} {dvs : List V} {ds : List Value} {E : XK} {x m : Str} {p pos apos : Pos} {e o : Expr} {es : List Expr} {ta : TE} {t : TA}
theorem run_fn {pins : List (Addr × Obj)} {σ : St} {H : Hp} {s : Shared} {Q : VK} {us : List Value} {vs : List V} (F : FnOk X.prog X.w X.K X.mg X.base CX k f fd ps sp) (hr : Room k X.A) (hb : Binds X.K fd ps ds) (hd : Vals dvs ds) (hx : Passes CX X E)
    (I : Inv X pins σ H s) (r : Vals vs us) (h : sp (vs ++ dvs) H Q E) : wpAny (model X.prog X.w) X.A (call (.ref f) us) (EP X pins σ Q) X.xe s := by
  have r2 : Vals (vs ++ dvs) (us ++ ds) := r.append hd
  have hl : (us ++ ds).length = ps.length := by rw [← r2.length]; exact F.len _ _ _ _ h
  refine wpAny_call (codeAny_mono (F.run X.A X.stack s H ⟨us, []⟩ (us ++ ds) (vs ++ dvs) Q E hr I.env0 (hb s us I.kIn hl) r2 h) fun r s' hq => ?_)
  cases r with
  | error e => exact hx pins σ H s e s' I hq
  | ok fl =>
    cases fl with
    | ret u => exact I.after hq
    | next => exact False.elim hq
    | brk => exact False.elim hq
    | cont => exact False.elim hq
theorem pe_call (F : FnOk X.prog X.w X.K X.mg X.base CX k f fd ps sp) (hr : Room k X.A) (hg : Gl X x) (hm : X.mg x = some (.ref f)) (hk : PySem.W.keepIn X.K (.ref f) = true) (hb : Binds X.K fd ps ds) (hd : Vals dvs ds) (hx : Passes CX X E)
    (ha : PA X (e :: es) t) (hdb : (x == ("__debug__" : Str)) = false := by decide) (he : starEach (e :: es) X.env = (false, eval e X.env) :: starEach es X.env := by rfl) (hpl : (backTo pos (starEach es X.env)).any (·.1) = false := by rfl) :
    PE X (.Call (.Name x p) (e :: es) [] pos) (tCall sp dvs E t) := by
  intro pins s σ H Q I h
  refine wpAny_Call_Name_kw (ld_glob I hg hm ?_ hdb)
  refine PySem.W.callWith_K (h₀ := X.base) I.ok.mod.kin hk (thn (ha pos pins s σ H _ I h) fun us s1 ⟨vs, H1, I1, r, q⟩ => ⟨I1.kIn, ?_⟩) he hpl
  exact run_fn F hr hb hd hx I1 r q
structure Mk (K : PySem.W.Frag) (C f : Addr) : Prop where
  makes : PySem.W.makesIn K C = true
  init : PySem.W.findIn K (.ref C) "__init__" = some (some (.ref f))
  fn : PySem.W.isFn K (.ref f) = true
  kp : PySem.W.keepIn K (.ref C) = true
end
section
variable {X : Cx} {CX : CXT} {k : Nat} {f C : Addr} {fd : FuncData} {ps ks : List Str} {sp : Sp} {E : XK} {x m : Str} {p pos apos kpos : Pos} {e o : Expr} {es : List Expr} {kws : List Keyword} {te ta : TE} {t tk : TA} {nm : Option Str}
variable {g : List Value → List Value → List Value} {gV : List V → List V → List V}
end
structure FnScope (N P : List Str) (sc : Scope) : Prop where
  kind : sc.kind = .function
  co : sc.isCoroutine = false
  gen : sc.isGenerator = false
  nd : N.Nodup
  pre : N.take P.length = P
  par : ∀ x ∈ P, sc.names.lookup x = some .local ∨ sc.names.lookup x = some .cell
  nofree : ∀ y ∈ sc.names, y.2 ≠ .free
theorem bindL_out {kindOf : Str → Option NameKind} {x : Str} : ∀ {binds : List (Str × Value)} {m : Str → Option Value}, (∀ v, (x, v) ∉ binds) → bindL kindOf binds m x = m x
  | [], _, _ => rfl
  | (n, v) :: r, m, h => by
    unfold bindL
    rw [bindL_out fun w hw => h w (List.mem_cons_of_mem _ hw)]
    split
    · have : x ≠ n := by rintro rfl; exact h v List.mem_cons_self
      simp [this]
    · rfl
theorem bindC_out {kindOf : Str → Option NameKind} {x : Str} : ∀ {binds : List (Str × Value)} {m : Str → Option Value}, (∀ v, (x, v) ∉ binds) → bindC kindOf binds m x = m x
  | [], _, _ => rfl
  | (n, v) :: r, m, h => by
    unfold bindC
    rw [bindC_out fun w hw => h w (List.mem_cons_of_mem _ hw)]
    split
    · rfl
    · have : x ≠ n := by rintro rfl; exact h v List.mem_cons_self
      simp [this]
theorem bindL_get {kindOf : Str → Option NameKind} {x : Str} {v : Value} : ∀ {P : List Str} {vs : List Value} {i : Nat} {m : Str → Option Value}, P.Nodup → P[i]? = some x → vs[i]? = some v → kindOf x = some .local →
    bindL kindOf (P.zip vs) m x = some v
  | [], _, _, _, _, h, _, _ => by simp at h
  | _ :: _, [], _, _, _, _, h, _ => by simp at h
  | p :: P, w :: vs, 0, m, nd, h1, h2, hk => by
    simp at h1 h2; subst h1; subst h2
    show bindL kindOf ((p, w) :: P.zip vs) m p = _
    unfold bindL
    rw [bindL_out fun v hv => (List.nodup_cons.mp nd).1 (List.of_mem_zip hv).1, if_pos hk]
    simp
  | p :: P, w :: vs, i + 1, m, nd, h1, h2, hk => by
    show bindL kindOf ((p, w) :: P.zip vs) m x = _
    unfold bindL
    exact bindL_get (i := i) (List.nodup_cons.mp nd).2 (by simpa using h1) (by simpa using h2) hk
theorem bindC_get {kindOf : Str → Option NameKind} {x : Str} {v : Value} : ∀ {P : List Str} {vs : List Value} {i : Nat} {m : Str → Option Value}, P.Nodup → P[i]? = some x → vs[i]? = some v → kindOf x ≠ some .local →
    bindC kindOf (P.zip vs) m x = some v
  | [], _, _, _, _, h, _, _ => by simp at h
  | _ :: _, [], _, _, _, _, h, _ => by simp at h
  | p :: P, w :: vs, 0, m, nd, h1, h2, hk => by
    simp at h1 h2; subst h1; subst h2
    show bindC kindOf ((p, w) :: P.zip vs) m p = _
    unfold bindC
    rw [bindC_out fun v hv => (List.nodup_cons.mp nd).1 (List.of_mem_zip hv).1, if_neg hk]
    simp
  | p :: P, w :: vs, i + 1, m, nd, h1, h2, hk => by
    show bindC kindOf ((p, w) :: P.zip vs) m x = _
    unfold bindC
    exact bindC_get (i := i) (List.nodup_cons.mp nd).2 (by simpa using h1) (by simpa using h2) hk
def start (N : List Str) (vs : List V) : St := vs.map some ++ List.replicate (N.length - vs.length) none
def cxOf (CX : CXT) (P : Program) (w : World) (K : PySem.W.Frag) (mg : Str → Option Value) (base : Heap) (N : List Str) (qual : Str) (scope : Scope) (f : Addr) (cd : Value) (A : Around) (outer : List Env) (s : Shared) (H : Hp) (E : XK) : Cx where
  prog := P
  w := w
  K := K
  mg := mg
  base := base
  A := A.deeper (envOfC qual scope s.heap.objs.size f cd)
  N := N
  s_0 := s
  H_0 := H
  env := envOfC qual scope s.heap.objs.size f cd
  outer := outer
  stack := envOfC qual scope s.heap.objs.size f cd :: outer
  ex := []
  calm := true
  fn := fun _ => true
  pn := []
  xe := fun e s' => wpAny (model P w) (A.deeper (envOfC qual scope s.heap.objs.size f cd)) (leaving (envOfC qual scope s.heap.objs.size f cd) e) (fun _ s'' => CX outer H s E e s'') (fun e' s'' => CX outer H s E e' s'') s'
theorem cell_has {sc : Scope} {n : Nat} {x : Str} (h : sc.names.lookup x = some .cell) : ∃ c, (cellsFrom n sc.names []).lookup x = some c := by
  have q := PySem.W.cellsFrom_some sc.names n [] (.inl h)
  exact Option.isSome_iff_exists.mp q
theorem inv_start {CX : CXT} {P : Program} {w : World} {K : PySem.W.Frag} {mg : Str → Option Value} {base : Heap} {N ps : List Str} {qual : Str} {scope : Scope} {f : Addr} {cd : Value} {A : Around} {outer : List Env} {s s1 : Shared} {H : Hp} {E : XK} {us : List Value} {vs : List V}
    (S : FnScope N ps scope) (hd : A.handled = none) (e0 : Env0 P w K mg base A outer s H) (hl : vs.length = ps.length) (r : Vals vs us)
    (x : InCallC s s.heap.objs.size (bindL (envOfC qual scope s.heap.objs.size f cd).kindOf (ps.zip us) fun _ => none) (cellsFrom (s.heap.objs.size + 1) scope.names []) (bindC (envOfC qual scope s.heap.objs.size f cd).kindOf (ps.zip us) fun _ => none) s1) :
    Inv (cxOf CX P w K mg base N qual scope f cd A outer s H E) [] (start N vs) H s1 := by
  have hpl : ps.length ≤ N.length := by have := congrArg List.length S.pre; rw [List.length_take] at this; omega
  obtain ⟨h1, tk, rfl, hk⟩ := x.done
  have noA : ∀ b : Addr, b ∉ (cxOf CX P w K mg base N qual scope f cd A outer s H E).ex := fun b z => absurd (show b ∈ ([] : List Addr) from z) (by simp)
  refine ⟨⟨e0.mod, S.kind, rfl, rfl, Nat.le_refl _, fun y z c h1 h2 => ?_, fun y hy => ?_, fun y c _ h => ?_, fun _ => hd, Around.frames_deeper e0.frames, .inr ⟨rfl, rfl⟩, fun b z => absurd z (noA b), e0.bs, e0.bsz, fun b _ _ => noA b, fun b z => absurd z (noA b), e0.funs, e0.frf⟩,
    rfl, e0.bare, Un.kept hk, ⟨_, x.toInCall.ns, fun i y v h1 h2 h3 => ?_⟩, fun y c h => ⟨_, x.cell y c h⟩, e0.hok.fresh (Nat.le_refl _), fun y c h => ?_, fun p hp => absurd (show p ∈ ([] : List (Addr × Obj)) from hp) (by simp), e0.hok.kept hk, ?_⟩
  · exact name_of_addr x.apart (PySem.mem_of_lookup h1) (PySem.mem_of_lookup h2)
  · have hy : scope.names.lookup y = some .cell ∨ scope.names.lookup y = some .free := hy
    rcases hy with hy | hy
    · exact cell_has hy
    · exact absurd rfl (S.nofree _ (PySem.mem_of_lookup hy))
  · exact Nat.le_of_lt (x.above y c (PySem.mem_of_lookup h))
  · have hi : i < vs.length := by
      unfold start at h2
      by_cases hi : i < vs.length
      · exact hi
      · rw [List.getElem?_append_right (by simpa using hi)] at h2
        rw [List.getElem?_replicate] at h2
        split at h2 <;> cases h2
    have ha : vs[i]? = some v := by
      unfold start at h2
      rw [List.getElem?_append_left (by simpa using hi), List.getElem?_map] at h2
      cases e : vs[i]? with
      | none => rw [e] at h2; cases h2
      | some a => rw [e] at h2; cases h2; rfl
    obtain ⟨u, hu, rv⟩ := r.get ha
    have hp : ps[i]? = some y := by
      rw [← S.pre, List.getElem?_take_of_lt (by omega)]; exact h1
    have ndP : ps.Nodup := by rw [← S.pre]; exact S.nd.sublist (List.take_sublist _ _)
    refine ⟨u, rv, ?_⟩
    rcases S.par y (List.mem_of_getElem? hp) with k | k
    · exact .inl ⟨k, bindL_get ndP hp hu k⟩
    · obtain ⟨c, e⟩ := cell_has (n := s.heap.objs.size + 1) k
      refine .inr ⟨.inl k, c, e, ?_⟩
      have q := x.cell y c e
      rw [bindC_get ndP hp hu (by show scope.names.lookup y ≠ _; rw [k]; decide)] at q
      exact q
  · exact e0.hok.fresh (Nat.le_of_lt (x.above y c (PySem.mem_of_lookup h)))
  · unfold start
    show _ = N.length
    rw [List.length_append, List.length_map, List.length_replicate]
    omega
theorem fn_of {CX : CXT} {P : Program} {w : World} {K : PySem.W.Frag} {mg : Str → Option Value} {base : Heap} {k : Nat} {f : Addr} {name qual : Str} {params : Arguments} {body : List Stmt} {scope : Scope} {dV kV doc pm cdv ct oc : Value} {an od : Option Addr}
    {osl : Array (Option Value)} {N ps : List Str} {sp : Sp} (lk : K.lookup f = some ⟨oc, od, .func (PySem.W.fnOf name qual params body scope dV kV doc pm an cdv ct), osl⟩) (hcd : PySem.W.codeIn K cdv qual = true) (S : FnScope N ps scope)
    (len : ∀ vs H Q E, sp vs H Q E → vs.length = ps.length)
    (hbody : ∀ (A : Around) (outer : List Env) (s : Shared) (H : Hp) (vs : List V) (Q : VK) (E : XK), Room k (A.deeper (envOfC qual scope s.heap.objs.size f cdv)) → sp vs H Q E →
      ∃ t, PSs (cxOf CX P w K mg base N qual scope f cdv A outer s H E) body t ∧ t { nx := fun _ H' => Q .non H', rt := Q } (start N vs) H) :
    FnOk P w K mg base CX (k + 1) f (PySem.W.fnOf name qual params body scope dV kV doc pm an cdv ct) ps sp := by
  refine ⟨len, fun A outer s H args us vs Q E hr e0 hb r hsp => ?_⟩
  have hl := len _ _ _ _ hsp
  have KX : K.In s.heap := e0.mod.kin.keeps fun b o e => (e0.bs b o e).1
  have lim : s.heap.NoLimit := e0.mod.nolimit.keeps fun b o e => (e0.bs b o e).1
  have hkind : ∀ y ∈ ps.zip us, scope.names.lookup y.1 = some .local ∨ (scope.names.lookup y.1 = some .cell ∧ ((cellsFrom (s.heap.objs.size + 1) scope.names []).lookup y.1).isSome = true) := fun ⟨n, v⟩ hy => by
    rcases S.par n (List.of_mem_zip hy).1 with q | q
    · exact .inl q
    · exact .inr ⟨q, PySem.W.cellsFrom_some _ _ _ (.inl q)⟩
  refine codeAny_call_function hr.depth (KX _ _ lk) rfl S.co S.gen rfl (PySem.W.codeRec_of KX hcd) (hb _ _ _ _ ?_)
  refine wpAny_newFunctionEnv_cells S.kind hkind fun env he s1 x => ?_
  subst he
  refine ⟨lim.keeps x.toInCall.keep, codeAny_func ?_⟩
  obtain ⟨t, ht, hq⟩ := hbody A outer s H vs Q E (hr.deeper _) hsp
  have I : Inv (cxOf CX P w K mg base N qual scope f cdv A outer s H E) [] (start N vs) H s1 := inv_start S hr.hd e0 hl r x
  refine wpAny_mono (ht [] s1 (start N vs) H _ I hq) (fun fl s' hs => ?_) fun e s' hs => hs
  have fin : ∀ {σ' : St} {H' : Hp} {v : V} {u : Value}, Inv (cxOf CX P w K mg base N qual scope f cdv A outer s H E) [] σ' H' s' → RelV v u → Q v H' → CE outer P w H s Q u s' :=
    fun {σ' H' v u} J rv q => ⟨v, H', J.os, J.bare, J.base, J.hok, rv, q⟩
  cases fl with
  | ret u =>
    obtain ⟨v, σ', H', J, rv, q⟩ := hs
    exact fin J rv q
  | next =>
    obtain ⟨σ', H', J, q⟩ := hs
    exact fin (v := V.non) (u := Value.none) J rfl q
  | brk =>
    obtain ⟨_, _, _, q⟩ := hs
    exact False.elim q
  | cont =>
    obtain ⟨_, _, _, q⟩ := hs
    exact False.elim q
end L2
namespace L2
open PySem PySem.Spec PyProof.Rows
section
variable {X : Cx} {x : Str} {p pos : Pos} {e : Expr} {es : List Expr} {t : TA} {id T : String} {r : List V → Hp → VK → Prop}
def tCB (r : List V → Hp → VK → Prop) (t : TA) : TE := fun σ H Q => t σ H fun vs H1 => r vs H1 Q
theorem pe_callB (hc : CallR X (.builtin id) r) (hg : Gl X x) (hm : X.mg x = none) (hv : bootBuiltins x = some (.builtin id)) (ha : PA X (e :: es) t) (hn : x ≠ "__name__" := by decide) (hdb : (x == ("__debug__" : Str)) = false := by decide)
    (he : starEach (e :: es) X.env = (false, eval e X.env) :: starEach es X.env := by rfl) (hpl : (backTo pos (starEach es X.env)).any (·.1) = false := by rfl) : PE X (.Call (.Name x p) (e :: es) [] pos) (tCB r t) := by
  intro pins s σ H Q I h
  refine wpAny_Call_Name_kw (ld_blt I hg hm hv ?_ hn hdb)
  exact PyProof.Rows.callWith_builtin1 (thn (ha pos pins s σ H _ I h) fun us s1 ⟨vs, H1, I1, r1, q1⟩ => hc pins s1 σ H1 vs us Q I1 r1 q1) he hpl
theorem pe_callTy (hc : CallR X (.type T) r) (hg : Gl X x) (hm : X.mg x = none) (hv : bootBuiltins x = some (.type T)) (ha : PA X (e :: es) t) (hn : x ≠ "__name__" := by decide) (hdb : (x == ("__debug__" : Str)) = false := by decide)
    (he : starEach (e :: es) X.env = (false, eval e X.env) :: starEach es X.env := by rfl) (hpl : (backTo pos (starEach es X.env)).any (·.1) = false := by rfl) : PE X (.Call (.Name x p) (e :: es) [] pos) (tCB r t) := by
  intro pins s σ H Q I h
  refine wpAny_Call_Name_kw (ld_blt I hg hm hv ?_ hn hdb)
  exact PyProof.Rows.callWith_type1 (thn (ha pos pins s σ H _ I h) fun us s1 ⟨vs, H1, I1, r1, q1⟩ => hc pins s1 σ H1 vs us Q I1 r1 q1) he hpl
theorem pe_callTy0 (hc : CallR X (.type T) r) (hg : Gl X x) (hm : X.mg x = none) (hv : bootBuiltins x = some (.type T)) (hn : x ≠ "__name__" := by decide) (hdb : (x == ("__debug__" : Str)) = false := by decide) :
    PE X (.Call (.Name x p) [] [] pos) (tCB r tNil) := by
  intro pins s σ H Q I h
  refine wpAny_Call_Name_kw (ld_blt I hg hm hv ?_ hn hdb)
  exact PyProof.Rows.callWith_type0 (hc pins s σ H [] [] Q I .nil h)
end
end L2
namespace HT
open PySem PyProof.Rows
section
open PySem.SeqAt
open PySem.AutoSeq1 (wpAny_loadPart')
open PySem.MeetsSeq PySem.MeetsSeq2 PySem.MeetsSeq3
end
section
variable {prog : Program} {w : World} {A : Around} {E : Value → Shared → Prop} {s : Shared}
theorem cat_tup {t b : Addr} {vs ws : List Value} {Q : Value → Shared → Prop} (ht : IsTup s.heap t vs.toArray) (hb : IsTup s.heap b ws.toArray) (hv : vs ≠ [])
    (h1 : ws = [] → Q (.ref t) s) (h2 : ws ≠ [] → Q (.ref s.heap.objs.size) { s with heap := s.heap.push { cls := .type "tuple", data := .seq (vs ++ ws).toArray } })
    (hsz : vs.length + ws.length ≤ sizeLine) : wpAny (model prog w) A (binaryOp .Add (.ref t) (.ref b)) Q E s := by
  obtain ⟨⟨cls, dd, data, sl⟩, ho, hc, n, hd⟩ := id ht
  obtain ⟨⟨cls2, dd2, data2, sl2⟩, ho2, hc2, n2, hd2⟩ := id hb
  simp only at hc hd hc2 hd2
  subst hc hd hc2 hd2
  have e : vs.toArray ++ ws.toArray = (vs ++ ws).toArray := by simp
  by_cases hw : ws = []
  · exact concat_meets ⟨_, ho, rfl⟩ ⟨_, ho2, rfl⟩ noFill_tuple_add seq_tuple_add PySem.F.slot_tuple_add PySem.F.entry_tuple_add (PySem.F.args_tuple_add_2 _ _)
      (tuple_addW1 t b vs.toArray ws.toArray n n2 dd dd2 sl sl2 (by simpa using hv) (by simp [hw])) ⟨ho, ho2, h1 hw⟩
  · refine concat_meets ⟨_, ho, rfl⟩ ⟨_, ho2, rfl⟩ noFill_tuple_add seq_tuple_add PySem.F.slot_tuple_add PySem.F.entry_tuple_add (PySem.F.args_tuple_add_2 _ _)
      (tuple_addW2 t b vs.toArray ws.toArray n n2 dd dd2 sl sl2 (by simpa using hv) (by simpa using hw) (by rw [List.size_toArray, List.size_toArray]; exact hsz)) ⟨ho, ho2, ?_⟩
    rw [e]
    exact h2 hw
end
end HT
namespace L2
open PySem PySem.Spec PyProof.Rows
abbrev TO := St → Hp → (Option Int → Hp → Prop) → Prop
section
variable {X : Cx} {e : Expr} {te : TE} {lo hi : Option Expr} {tl th : TO} {pos p2 : Pos}
def rCatT (K : PySem.W.Frag) : R2 := fun x y H Q => ∃ a b xs ys, x = .ref a ∧ y = .ref b ∧ SqT K H a xs ∧ SqT K H b ys ∧ xs ≠ [] ∧ xs.length + ys.length ≤ sizeLine ∧
  (ys = [] → Q (.ref a) H) ∧ (ys ≠ [] → ∀ p, H p = none → Q (.ref p) (upd H p (.tup (xs ++ ys))))
theorem Vals.nil_iff {xs : List V} {us : List Value} (r : Vals xs us) : us = [] ↔ xs = [] := by
  cases r with
  | nil => simp
  | cons _ _ => simp
theorem op_catT : OpR X (binaryOp .Add) (rCatT X.K) := by
  intro pins s σ H x y v u Q I rx ry h
  obtain ⟨a, b, xs, ys, rfl, rfl, ha, hb, hx, hz, q1, q2⟩ := h
  cases rx
  cases ry
  obtain ⟨its, r1, p1, _⟩ := I.tuple ha
  obtain ⟨its2, r2, p2, _⟩ := I.tuple hb
  refine HT.cat_tup p1 p2 (fun z => hx (r1.nil_iff.mp z)) (fun z => ⟨.ref a, H, I, rfl, q1 (r2.nil_iff.mp z)⟩) (fun z => ?_) (by rw [← r1.length, ← r2.length]; exact hz)
  refine ⟨.ref s.heap.objs.size, _, I.laid (t' := s.toks) (o := .tup (xs ++ ys)) (fun b ob q => Heap.get?_push_of_some _ q) (Nat.le_refl _) ?_, rfl, q2 (fun w => z (r2.nil_iff.mpr w)) _ (I.hok.fresh (Nat.le_refl _))⟩
  exact ⟨by rw [List.length_append]; exact hz, _, r1.append r2, TupN.new _ _⟩
end
end L2
namespace L2
open PySem PySem.Spec PyProof.Rows
def ixN (n : Nat) (i : Int) : Option Nat := if 0 ≤ i then (if i < n then some i.toNat else none) else if -(n : Int) ≤ i then some (i + n).toNat else none
def atI {α : Type} (xs : List α) (i : Int) : Option α := (ixN xs.length i).bind fun j => xs[j]?
theorem ixN_seq {n : Nat} {i : Int} {j : Nat} (h : ixN n i = some j) : seqIndex? i n = some j ∧ j < n ∧ -(n : Int) ≤ i ∧ i < n := by
  unfold ixN at h
  by_cases h0 : 0 ≤ i
  · rw [if_pos h0] at h
    by_cases h1 : i < n
    · rw [if_pos h1] at h
      have e : i.toNat = j := Option.some.inj h
      exact ⟨by rw [seqIndex_of h0 h1, e], by omega, by omega, h1⟩
    · rw [if_neg h1] at h; cases h
  · rw [if_neg h0] at h
    by_cases h1 : -(n : Int) ≤ i
    · rw [if_pos h1] at h
      have e : (i + n).toNat = j := Option.some.inj h
      exact ⟨by rw [seqIndex_neg (by omega) h1, e], by omega, h1, by omega⟩
    · rw [if_neg h1] at h; cases h
theorem atI_get {α : Type} {xs : List α} {i : Int} {v : α} (h : atI xs i = some v) : ∃ j, seqIndex? i xs.length = some j ∧ xs[j]? = some v ∧ j < xs.length ∧ -(xs.length : Int) ≤ i ∧ i < xs.length := by
  unfold atI at h
  cases e : ixN xs.length i with
  | none => rw [e] at h; cases h
  | some j =>
    rw [e] at h
    obtain ⟨h1, h2, h3, h4⟩ := ixN_seq e
    exact ⟨j, h1, h, h2, h3, h4⟩
theorem atI_nat {α : Type} {xs : List α} {j : Nat} {v : α} (h : xs[j]? = some v) : atI xs (j : Int) = some v := by
  have hj : j < xs.length := (List.getElem?_eq_some_iff.mp h).1
  have e : ixN xs.length (j : Int) = some j := by
    unfold ixN
    rw [if_pos (by omega), if_pos (by omega)]; simp
  unfold atI; rw [e]; exact h
def PlainIx (b : Expr) : Prop := ∀ o i, subscripted b false o i = operate [o, i] (getItem o i)
def IxR (X : Cx) (r : R2) : Prop :=
  ∀ (value slice : Expr) (pins : List (Addr × Obj)) (s : Shared) (σ : St) (H : Hp) (x y : V) (v u : Value) (Q : VK), Inv X pins σ H s → RelV x v → RelV y u → r x y H Q →
    subscripted slice false v u = operate [v, u] (getItem v u) → wpAny (model X.prog X.w) X.A (subscriptTail value slice v u) (EP X pins σ Q) X.xe s
def MtR (X : Cx) (id : String) (r : V → List V → Hp → VK → Prop) : Prop :=
  ∀ (pins : List (Addr × Obj)) (s : Shared) (σ : St) (H : Hp) (x : V) (xs : List V) (v : Value) (us : List Value) (Q : VK), Inv X pins σ H s → RelV x v → Vals xs us → r x xs H Q →
    wpAny (model X.prog X.w) X.A (call (.builtin id) (v :: us)) (EP X pins σ Q) X.xe s
section
variable {X : Cx} {a b : Expr} {ta tb : TE} {pos : Pos}
theorem pe_ix {r : R2} (hr : IxR X r) (ha : PE X a ta) (hb : PE X b tb) (hs : PlainIx b) : PE X (.Subscript a b pos) (tOp r ta tb) := by
  intro pins s σ H Q I h
  exact Subscript_ (binT ha hb I h fun v u s2 x y H2 I2 rx ry q => hr a b pins s2 σ H2 x y v u Q I2 rx ry q (hs _ _))
def rIxL (K : PySem.W.Frag) : R2 := fun x y H Q => ∃ p xs i v, x = .ref p ∧ y = .int i ∧ SqL K H p xs ∧ atI xs i = some v ∧ Q v H
def rIxT (K : PySem.W.Frag) : R2 := fun x y H Q => ∃ p xs i v, x = .ref p ∧ y = .int i ∧ SqT K H p xs ∧ atI xs i = some v ∧ Q v H
theorem ix_list : IxR X (rIxL X.K) := by
  intro value slice pins s σ H x y v u Q I rx ry h hs
  obtain ⟨p, xs, i, z, rfl, rfl, hq, he, q⟩ := h
  cases rx
  obtain ⟨t, rfl⟩ := ry
  obtain ⟨its, r, pl, hz⟩ := I.list hq
  obtain ⟨j, h1, h2, h3, h4, h5⟩ := atI_get he
  obtain ⟨w, ew, rw'⟩ := r.get h2
  have hl := r.length
  have hn := line63
  have fin : EP X pins σ Q w s := ⟨z, H, I, rw', q⟩
  by_cases h0 : 0 ≤ i
  · have hj : i.toNat = j := by
      rw [seqIndex_of h0 h5] at h1
      exact Option.some.inj h1
    exact item_listR pl.isList h0 (by omega) (by rw [hj]; simpa using ew) fin hs
  · have hj : (i + (its.toArray.size : Int)).toNat = j := by
      rw [seqIndex_neg (by omega) h4] at h1
      rw [List.size_toArray, ← hl]
      exact Option.some.inj h1
    exact subscriptTail_builtinR (x := w) pl.isList.typeIs slot_list_getitem.lookup
      (wpAny_getItem_list_neg (Q := fun r s' => r = w ∧ EP X pins σ Q r s') pl.isList (by omega) (by rw [List.size_toArray] <;> omega) (by omega) (by rw [hj]; simpa using ew) ⟨rfl, fin⟩) hs
theorem ix_tup : IxR X (rIxT X.K) := by
  intro value slice pins s σ H x y v u Q I rx ry h hs
  obtain ⟨p, xs, i, z, rfl, rfl, hq, he, q⟩ := h
  cases rx
  obtain ⟨t, rfl⟩ := ry
  obtain ⟨its, r, pl, hz⟩ := I.tuple hq
  obtain ⟨j, h1, h2, h3, h4, h5⟩ := atI_get he
  obtain ⟨w, ew, rw'⟩ := r.get h2
  have hl := r.length
  have hn := line63
  have fin : EP X pins σ Q w s := ⟨z, H, I, rw', q⟩
  exact subscriptTail_builtinR (x := w) pl.typeIs slot_tuple_getitem.lookup
    (getItem_tuple (j := j) (Q := fun r s' => r = w ∧ EP X pins σ Q r s') pl (by omega) (by omega) (by rw [List.size_toArray, ← hl]; exact h1) (by simpa using ew) ⟨rfl, fin⟩) hs
theorem mapSeq_set (its : List Value) (n j : Nat) (u : Value) : Obj.mapSeq (·.setIfInBounds j u) { cls := .type "list", data := .seq its.toArray n } = { cls := .type "list", data := .seq (its.set j u).toArray n } := by
  simp [Obj.mapSeq]
theorem Inv.lst {pins : List (Addr × Obj)} {σ : St} {H : Hp} {s : Shared} {p : Addr} {xs : List V} (I : Inv X pins σ H s) (h : H p = some (.lst xs)) :
    ∃ (its : List Value) (n : Nat), Vals xs its ∧ s.heap.get? p = some { cls := .type "list", data := .seq its.toArray n } ∧ xs.length ≤ sizeLine := by
  obtain ⟨z, its, n, r, e⟩ := I.hok p _ h
  exact ⟨its, n, r, e, z⟩
theorem Inv.lstUpd {pins : List (Addr × Obj)} {σ : St} {H : Hp} {s : Shared} {p : Addr} {xs ys : List V} {its its' : List Value} {n n' : Nat} {f : Obj → Obj} (I : Inv X pins σ H s) (h : H p = some (.lst xs))
    (ho : s.heap.get? p = some { cls := .type "list", data := .seq its.toArray n }) (hf : f { cls := .type "list", data := .seq its.toArray n } = { cls := .type "list", data := .seq its'.toArray n' }) (r : Vals ys its') (hz : ys.length ≤ sizeLine) (t : Nat) :
    Inv X pins σ (upd H p (.lst ys)) { s with heap := s.heap.update p f, toks := t } := by
  have e : (s.heap.update p f).get? p = some { cls := .type "list", data := .seq its'.toArray n' } := by
    rw [Heap.get?_update_self f ho (by rw [hf] <;> rfl), hf]
  refine I.write (x := p) (e := p) (by rw [h]; trivial) (.inl rfl) (fun b u hb q => (Heap.get?_update_other _ _ (Ne.symm hb)).trans q) ⟨_, e⟩ ?_
  exact ⟨hz, its', n', r, e⟩
def rSetL : V → V → V → Hp → (Hp → Prop) → Prop := fun o i v H Q => ∃ p xs k j, o = .ref p ∧ i = .int k ∧ H p = some (.lst xs) ∧ ixN xs.length k = some j ∧ Q (upd H p (.lst (xs.set j v)))
theorem set_list : PSet X rSetL := by
  intro pins s σ H o i v ov iv u Q I ro ri rv h
  obtain ⟨p, xs, k, j, rfl, rfl, hp, hj, q⟩ := h
  cases ro
  obtain ⟨t, rfl⟩ := ri
  obtain ⟨its, n, r, ho, hz⟩ := I.lst hp
  obtain ⟨h1, h2, h3, h4⟩ := ixN_seq hj
  have hl := r.length
  have hn := line63
  have I' : Inv X pins σ (upd H p (.lst (xs.set j v))) { s with heap := s.heap.update p (Obj.mapSeq (·.setIfInBounds j u)) } :=
    I.lstUpd hp ho (mapSeq_set its n j u) (r.set rv j) (by rw [List.length_set]; exact hz) s.toks
  by_cases h0 : 0 ≤ k
  · have hk : k.toNat = j := by
      rw [seqIndex_of h0 h4] at h1
      exact Option.some.inj h1
    exact PySem.W.ki_setAt ho h0 (by omega) (by rw [List.size_toArray, ← hl]; exact h4) (by rw [hk]; exact ⟨_, I', q⟩)
  · have hk : (k + (its.toArray.size : Int)).toNat = j := by
      rw [seqIndex_neg (by omega) h3] at h1
      rw [List.size_toArray, ← hl]
      exact Option.some.inj h1
    exact PySem.W.ki_setBack ho (by omega) (by rw [List.size_toArray, ← hl]; exact h3) (by omega) (by rw [hk]; exact ⟨_, I', q⟩)
theorem call_len_seq : CallR X (.builtin "len") (fun xs H Q => ∃ p ys, xs = [.ref p] ∧ (SqL X.K H p ys ∨ SqT X.K H p ys) ∧ Q (.int ys.length) H) := by
  intro pins s σ H xs us Q I r h
  obtain ⟨p, ys, rfl, hq, q⟩ := h
  obtain ⟨u, rfl, rx⟩ := vals1 r
  cases rx
  have hn := line63
  rcases hq with hq | hq
  · obtain ⟨its, r', pl, hz⟩ := I.list hq
    have hlen := r'.length
    exact Calls.call_len_list pl.isList (by simp only [List.size_toArray] <;> omega) ⟨.int ys.length, H, I.tok _, ⟨s.toks + 1, by rw [List.size_toArray, hlen]⟩, q⟩
  · obtain ⟨its, r', pl, hz⟩ := I.tuple hq
    have hlen := r'.length
    exact len_tuple pl (by simp only [List.size_toArray] <;> omega) ⟨.int ys.length, H, I.tok _, ⟨s.toks + 1, by rw [List.size_toArray, hlen]⟩, q⟩
theorem call_tuple_of : CallR X (.type "tuple") (fun xs H Q => ∃ p ys, xs = [.ref p] ∧ ((SqL X.K H p ys ∧ ∀ l, H l = none → Q (.ref l) (upd H l (.tup ys))) ∨ (SqT X.K H p ys ∧ Q (.ref p) H))) := by
  intro pins s σ H xs us Q I r h
  obtain ⟨p, ys, rfl, h⟩ := h
  obtain ⟨u, rfl, rx⟩ := vals1 r
  cases rx
  rcases h with ⟨hq, q⟩ | ⟨hq, q⟩
  · obtain ⟨its, r', pl, hz⟩ := I.list hq
    have hlen := r'.length
    refine call_tuple_list pl.isList (fun h' kp => ?_) (by simp only [List.size_toArray] <;> omega)
    have I1 : Inv X pins σ H { s with heap := h' } := I.kept (t' := s.toks) kp
    have I2 : Inv X pins σ (upd H h'.objs.size (.tup ys)) { s with heap := h'.push { cls := .type "tuple", data := .seq its.toArray } } :=
      I1.laid (t' := s.toks) (fun b o e => Heap.get?_push_of_some _ e) (Nat.le_refl _) (show ObjOk X.prog X.w _ _ _ (.tup ys) from ⟨hz, its, r', TupN.new _ _⟩)
    exact ⟨.ref h'.objs.size, _, I2, rfl, q _ (I1.hok.fresh (Nat.le_refl _))⟩
  · obtain ⟨its, r', pl, hz⟩ := I.tuple hq
    exact call_tuple_same pl ⟨.ref p, H, I, rfl, q⟩
def tyV (K : PySem.W.Frag) (T : String) (x : V) (H : Hp) : Prop := match x with
  | .str _ => T = "str"
  | .int _ => T = "int"
  | .ref p => (T = "list" ∧ ∃ xs, SqL K H p xs) ∨ (T = "tuple" ∧ ∃ xs, H p = some (.tup xs)) ∨ (T = "tuple" ∧ ∃ o, K.lookup p = some o ∧ o.cls = .type "tuple" ∧ o.dict = none) ∨
      (T = "dict" ∧ ((∃ kvs, H p = some (.dK kvs)) ∨ ∃ kvs, H p = some (.dT kvs))) ∨ (T = "set" ∧ ∃ S n, H p = some (.set S n))
  | _ => False
theorem tyV_is {pins : List (Addr × Obj)} {σ : St} {H : Hp} {s : Shared} {T : String} {x : V} {v : Value} (I : Inv X pins σ H s) (r : RelV x v) (ty : tyV X.K T x H) :
    s.TypeIs v T ∧ ∀ a, v = .ref a → ∃ ob, s.heap.get? a = some ob ∧ ob.dict = none := by
  cases x with
  | str z =>
    obtain ⟨t, rfl⟩ := r
    cases (show T = "str" from ty)
    exact ⟨typeIs_str s z t, fun _ e => nomatch e⟩
  | int i =>
    obtain ⟨t, rfl⟩ := r
    cases (show T = "int" from ty)
    exact ⟨typeIs_int s i t, fun _ e => nomatch e⟩
  | ref p =>
    cases r
    rcases ty with ⟨rfl, xs, hq⟩ | ⟨rfl, xs, hx⟩ | ⟨rfl, o, hk, hc, hd⟩ | ⟨rfl, hk⟩ | ⟨rfl, S, n, hk⟩
    · obtain ⟨its, _, pl, _⟩ := I.list hq
      refine ⟨pl.isList.typeIs, fun a e => ?_⟩
      cases e
      obtain ⟨o, n, e, c, hd, _⟩ := pl
      exact ⟨o, e, hd⟩
    · obtain ⟨_, _, _, o, e, hd, hc, _⟩ := (show ObjOk X.prog X.w H s.heap p (.tup xs) from I.hok p _ hx)
      refine ⟨⟨o, e, hc⟩, fun a e2 => ?_⟩
      cases e2
      exact ⟨o, e, hd⟩
    · refine ⟨⟨o, I.kIn p o hk, hc⟩, fun a e => ?_⟩
      cases e
      exact ⟨o, I.kIn _ o hk, hd⟩
    · have z : ∃ o, s.heap.get? p = some o ∧ o.ExactDict := by
        rcases hk with ⟨kvs, hk⟩ | ⟨kvs, hk⟩
        · obtain ⟨_, _, _, _, o, _, _, e, ex, _⟩ := I.hok p _ hk
          exact ⟨o, e, ex⟩
        · obtain ⟨_, _, _, _, o, _, _, e, ex, _⟩ := I.hok p _ hk
          exact ⟨o, e, ex⟩
      obtain ⟨o, e, ex⟩ := z
      refine ⟨⟨o, e, ex.1⟩, fun a e2 => ?_⟩
      cases e2
      exact ⟨o, e, ex.2.1⟩
    · obtain ⟨o, _, _, _, e, ex, _⟩ := I.hok p _ hk
      refine ⟨⟨o, e, ex.1⟩, fun a e2 => ?_⟩
      cases e2
      exact ⟨o, e, ex.2.1⟩
  | _ => exact False.elim ty
def tBM (K : PySem.W.Frag) (T : String) (r : V → List V → Hp → VK → Prop) (to : TE) (t : TA) : TE := fun σ H Q => to σ H fun x H1 => tyV K T x H1 ∧ t σ H1 fun xs H2 => r x xs H2 Q
variable {o e : Expr} {es : List Expr} {to : TE} {t : TA} {name : Str} {apos cpos : Pos} {T id : String} {r : V → List V → Hp → VK → Prop}
theorem pe_bm (pa : PlainAttrs T) (slot : Slot T name id) (hty : typeOf (.builtin id) = pure (.type "method_descriptor")) (hm : MtR X id r) (ho : PE X o to) (ha : PA X (e :: es) t)
    (hbase : attributeBase o name X.env (eval o X.env) = eval o X.env := by rfl)
    (hfew : ((backTo cpos (starEach (e :: es) X.env)).all (fun x => !x.1) && (backToKw cpos (keywordEach [] X.env)).all (fun x => x.1.isSome)
      && decide ((e :: es).length + ([] : List Keyword).length + (if ([] : List Keyword).isEmpty then 0 else 1) < 30)) = true := by rfl)
    (hline : (apos.endLine == cpos.line) = true := by rfl) (hs : starEach (e :: es) X.env = (false, eval e X.env) :: starEach es X.env := by rfl) (hplain : (backTo cpos (starEach es X.env)).any (·.1) = false := by rfl) :
    PE X (.Call (.Attribute o name apos) (e :: es) [] cpos) (tBM X.K T r to t) := by
  intro pins s σ H Q I h
  refine wpAny_Call_method_late hbase hfew hline rfl (thn (ho pins s σ H _ I h) fun v s1 ⟨x, H1, I1, r1, ty, q1⟩ => ?_)
  obtain ⟨h1, h2⟩ := tyV_is I1 r1 ty
  refine ⟨T, id, pa, slot, hty, h1, h2, ?_⟩
  have hA := ha cpos pins s1 σ H1 _ I1 q1
  rw [hs] at hA ⊢
  refine Calls.callWith_builtin (by show (false || (backTo cpos (starEach es X.env)).any (·.1)) = false; rw [hplain] <;> rfl) (Calls.evalArgs_plain ?_)
  exact thn hA fun us s2 ⟨vs, H2, I2, r2, q2⟩ => hm pins s2 σ H2 x vs v us Q I2 r1 r2 q2
end
end L2
namespace L2
open PySem PySem.Spec PyProof.Rows
def MtM (X : Cx) (id : String) (r : V → List V → Hp → VK → Prop) : Prop :=
  ∀ (pins : List (Addr × Obj)) (s : Shared) (σ : St) (H : Hp) (x : V) (xs : List V) (v : Value) (us : List Value) (Q : VK), Inv X pins σ H s → RelV x v → Vals xs us → r x xs H Q →
    wpAny (model X.prog X.w) X.A (call (.builtin id) (v :: us)) (EP X pins σ Q) X.xe s
theorem Vals.one : ∀ {x : V} {us : List Value}, Vals [x] us → ∃ u, us = [u] ∧ RelV x u
  | _, _, .cons r .nil => ⟨_, rfl, r⟩
theorem Vals.two : ∀ {x y : V} {us : List Value}, Vals [x, y] us → ∃ u v, us = [u, v] ∧ RelV x u ∧ RelV y v
  | _, _, _, .cons r (.cons q .nil) => ⟨_, _, rfl, r, q⟩
theorem Vals.zero : ∀ {us : List Value}, Vals [] us → us = []
  | _, .nil => rfl
theorem Vals.rep {xs : List V} {us : List Value} (h : Vals xs us) : ∀ k : Nat, Vals (List.replicate k xs).flatten (List.replicate k us).flatten
  | 0 => .nil
  | k + 1 => by
    rw [List.replicate_succ, List.replicate_succ, List.flatten_cons, List.flatten_cons]
    exact Vals.append h (Vals.rep h k)
theorem foldl_rep (its : List Value) : ∀ (k : Nat) (acc : List Value),
    List.foldl (fun x1 x2 => x1 ++ x2) acc.toArray (List.replicate k its.toArray) = (acc ++ (List.replicate k its).flatten).toArray
  | 0, acc => by simp
  | k + 1, acc => by
    have e : acc.toArray ++ its.toArray = (acc ++ its).toArray := by simp
    have e2 : (acc ++ its) ++ (List.replicate k its).flatten = acc ++ (List.replicate (k + 1) its).flatten := by
      rw [List.replicate_succ, List.flatten_cons, List.append_assoc]
    rw [← e2, ← foldl_rep its k (acc ++ its), ← e, List.replicate_succ, List.foldl_cons]
section
variable {X : Cx} {pins : List (Addr × Obj)} {σ : St} {H : Hp} {s : Shared} {l b : Addr} {xs ys zs : List V}
theorem Inv.lset {its its' : List Value} {n : Nat} {f : Array Value → Array Value} {t' : Nat} (I : Inv X pins σ H s) (hH : H l = some (.lst xs))
    (e : s.heap.get? l = some { cls := .type "list", data := .seq its.toArray n }) (hf : f its.toArray = its'.toArray) (hv : Vals ys its') (hz : ys.length ≤ sizeLine) :
    Inv X pins σ (upd H l (.lst ys)) { s with heap := s.heap.update l (Obj.mapSeq f), toks := t' } := by
  have q := PySem.IsL.update e f
  rw [hf] at q
  refine I.write (x := l) (e := l) (by rw [hH]; exact trivial) (.inl rfl) (fun b' u hb hu => (Heap.get?_update_other s.heap (Obj.mapSeq f) (Ne.symm hb)).trans hu) ⟨_, q⟩ ?_
  exact ⟨hz, its', _, hv, q⟩
theorem Inv.lnew {its : List Value} {t' : Nat} (I : Inv X pins σ H s) (hv : Vals ys its) (hz : ys.length ≤ sizeLine) :
    Inv X pins σ (upd H s.heap.objs.size (.lst ys)) { s with heap := s.heap.push { cls := .type "list", data := .seq its.toArray }, toks := t' } :=
  I.laid (fun _ _ q => Heap.get?_push_of_some _ q) (Nat.le_refl _) ⟨hz, its, 0, hv, Heap.get?_push_size _ rfl⟩
theorem Inv.fresh (I : Inv X pins σ H s) : H s.heap.objs.size = none := I.hok.fresh (Nat.le_refl _)
theorem Inv.lstM (I : Inv X pins σ H s) (hH : H l = some (.lst xs)) : xs.length ≤ sizeLine ∧ ∃ (its : List Value) (n : Nat), Vals xs its ∧ xs.length = its.length ∧ s.heap.get? l = some { cls := .type "list", data := .seq its.toArray n } := by
  obtain ⟨z, its, n, r, e⟩ := I.hok l _ hH
  exact ⟨z, its, n, r, r.length, e⟩
theorem notLongL {n : Nat} (h : n ≤ sizeLine) : Builtin.List.listTooLong n = false := by
  unfold Builtin.List.listTooLong
  exact decide_eq_false (by omega)
end
section
variable {X : Cx}
def rAppend : V → List V → Hp → VK → Prop := fun x vs H Q => ∃ l xs y, x = .ref l ∧ vs = [y] ∧ H l = some (.lst xs) ∧ xs.length < sizeLine ∧ Q .non (upd H l (.lst (xs ++ [y])))
theorem mt_append : MtM X "list.append" rAppend := by
  intro pins s σ H x vs v us Q I rx rv h
  obtain ⟨l, xs, y, rfl, rfl, hH, hz, q⟩ := h
  cases rx
  obtain ⟨u, rfl, ru⟩ := rv.one
  obtain ⟨z, its, n, r, hl, e⟩ := I.lstM hH
  refine call_meets F.slot_list_append ⟨_, e, rfl⟩ F.entry_list_append (F.args_list_append_2 _ _) (PySem.list_append l its.toArray n u (by rw [List.size_toArray]; omega)) ⟨e, ?_⟩
  refine ⟨.non, _, I.lset (its' := its ++ [u]) hH e (by simp) (r.append (.cons ru .nil)) ?_, rfl, q⟩
  rw [List.length_append, List.length_singleton]
  omega
def rExtend : V → List V → Hp → VK → Prop := fun x vs H Q => ∃ l b xs zs, x = .ref l ∧ vs = [.ref b] ∧ H l = some (.lst xs) ∧ H b = some (.lst zs) ∧ xs.length + zs.length ≤ sizeLine ∧ Q .non (upd H l (.lst (xs ++ zs)))
theorem mt_extend : MtM X "list.extend" rExtend := by
  intro pins s σ H x vs v us Q I rx rv h
  obtain ⟨l, b, xs, zs, rfl, rfl, hH, hB, hz, q⟩ := h
  cases rx
  obtain ⟨u, rfl, ru⟩ := rv.one
  cases ru
  obtain ⟨z, its, n, r, hl, e⟩ := I.lstM hH
  obtain ⟨z2, its2, n2, r2, hl2, e2⟩ := I.lstM hB
  have hsz : its.toArray.size + its2.toArray.size ≤ sizeLine := by rw [List.size_toArray, List.size_toArray]; omega
  have hlong : ¬ (!its.toArray.isEmpty && Builtin.List.listTooLong (its.toArray.size + its2.toArray.size)) = true := by
    rw [notLongL hsz, Bool.and_false]
    exact Bool.false_ne_true
  refine call_meets F.slot_list_extend ⟨_, e, rfl⟩ F.entry_list_extend (F.args_list_extend_2 _ _)
    (AutoSeq1.list_extend_list_list_0 l its.toArray n b its2.toArray n2 hlong (by rw [List.size_toArray]; omega) (by omega)) ⟨e, e2, ?_⟩
  refine ⟨.non, _, I.lset (its' := its ++ its2) hH e (by simp) (r.append r2) ?_, rfl, q⟩
  rw [List.length_append]
  omega
def rCat : R2 := fun x y H Q => ∃ l b xs zs, x = .ref l ∧ y = .ref b ∧ H l = some (.lst xs) ∧ H b = some (.lst zs) ∧ xs.length + zs.length ≤ sizeLine ∧ ∀ p, H p = none → Q (.ref p) (upd H p (.lst (xs ++ zs)))
theorem op_cat : OpR X (binaryOp .Add) rCat := by
  intro pins s σ H x y v u Q I rx ry h
  obtain ⟨l, b, xs, zs, rfl, rfl, hH, hB, hz, q⟩ := h
  cases rx
  cases ry
  obtain ⟨z, its, n, r, hl, e⟩ := I.lstM hH
  obtain ⟨z2, its2, n2, r2, hl2, e2⟩ := I.lstM hB
  refine PySem.P.add_list e e2 ?_ (by rw [List.size_toArray, List.size_toArray]; omega)
  have ea : its.toArray ++ its2.toArray = (its ++ its2).toArray := by simp
  rw [ea]
  exact ⟨.ref _, _, I.lnew (t' := s.toks) (r.append r2) (by rw [List.length_append]; omega), rfl, q _ I.fresh⟩
def rRep : R2 := fun x y H Q => ∃ l k xs, x = .ref l ∧ y = .int k ∧ H l = some (.lst xs) ∧ -(2 ^ 63) ≤ k ∧ k < 2 ^ 63 ∧ xs.length * k.toNat ≤ sizeLine ∧
  ∀ p, H p = none → Q (.ref p) (upd H p (.lst (List.replicate k.toNat xs).flatten))
theorem len_rep {α : Type} (xs : List α) (k : Nat) : (List.replicate k xs).flatten.length = k * xs.length := by
  induction k with
  | zero => simp
  | succ k ih => rw [List.replicate_succ, List.flatten_cons, List.length_append, ih, Nat.succ_mul, Nat.add_comm]
theorem op_rep : OpR X (binaryOp .Mult) rRep := by
  intro pins s σ H x y v u Q I rx ry h
  obtain ⟨l, k, xs, rfl, rfl, hH, h1, h2, hz, q⟩ := h
  cases rx
  obtain ⟨t, rfl⟩ := ry
  obtain ⟨z, its, n, r, hl, e⟩ := I.lstM hH
  have hlen : its.toArray.size * k.toNat ≤ sizeLine := by rw [List.size_toArray, ← hl]; exact hz
  have hcap : ¬ its.toArray.size * k.toNat > (2 ^ 63 - 1) / 8 := by
    have : (sizeLine : Nat) ≤ (2 ^ 63 - 1) / 8 := by decide
    omega
  have hfit : ¬ (!Builtin.List.listFitsIndex k) = true := by
    rw [fitsIndex_both h1 h2]
    exact Bool.false_ne_true
  have hlong : ¬ Builtin.List.listTooLong (its.toArray.size * k.toNat) = true := by
    rw [notLongL hlen]
    exact Bool.false_ne_true
  have hnew : List.foldl (fun x1 x2 => x1 ++ x2) #[] (List.replicate (if its.toArray.isEmpty = true then 0 else k.toNat) its.toArray) = (List.replicate k.toNat its).flatten.toArray := by
    have f0 : ∀ m : Nat, List.foldl (fun x1 x2 => x1 ++ x2) #[] (List.replicate m its.toArray) = (List.replicate m its).flatten.toArray := fun m => by
      have := foldl_rep its m []
      rw [List.nil_append] at this
      exact this
    rw [f0]
    cases its with
    | nil => simp
    | cons a r' => rw [if_neg (by simp)]
  refine wpAny_binaryOp_repeat_ref (T := "list") (U := "int") (by decide) ⟨_, e, rfl⟩ (fun s' => typeIs_int s' k t) noFill_list_mul F.fills_int_mul F.slot_int_rmul repeat_list F.slot_int_index.lookup
    (call_meets F.slot_int_rmul (typeIs_int s k t) F.entry_int_rmul (F.args_int_rmul_2 _ _) (int___rmul___int_list k t l its.toArray n)
      ⟨e, rfl, ⟨_, e, rfl⟩, call_meets F.slot_list_mul ⟨_, e, rfl⟩ F.entry_list_mul (F.args_list_mul_2 _ _) (AutoListH.list___mul___list_int_3 l its.toArray n k t hfit hcap hlong) ⟨e, ?_⟩⟩)
  rw [hnew]
  exact ⟨.ref _, _, I.lnew (t' := s.toks) (r.rep k.toNat) (by rw [len_rep, Nat.mul_comm]; exact hz), rfl, q _ I.fresh⟩
end
section
variable {prog : Program} {w : World} {A : Around} {E : Value → Shared → Prop} {s : Shared}
end
section
variable {X : Cx}
end
end L2
namespace L2
open PySem PySem.Spec PyProof.Rows
theorem Vals.ints : ∀ {ns : List Int} {us : List Value}, Vals (ns.map V.int) us → IntsAre us ns
  | [], us, h => by
    rw [List.map_nil] at h
    cases h
    exact IntsAre.nil
  | n :: ns, us, h => by
    rw [List.map_cons] at h
    cases h with
    | cons r t =>
      obtain ⟨k, rfl⟩ := r
      exact IntsAre.cons n k (Vals.ints t)
theorem vals_of_ints : ∀ {us : List Value} {ns : List Int}, IntsAre us ns → Vals (ns.map V.int) us
  | _, _, .nil => by rw [List.map_nil]; exact Paired.nil
  | _, _, .cons n t h => by rw [List.map_cons]; exact Paired.cons (show RelV (V.int n) (Value.int n t) from ⟨t, rfl⟩) (vals_of_ints h)
theorem Vals.strs : ∀ {xs : List Str} {us : List Value}, Vals (xs.map V.str) us → StrsAre us xs
  | [], us, h => by
    rw [List.map_nil] at h
    cases h
    exact StrsAre.nil
  | x :: xs, us, h => by
    rw [List.map_cons] at h
    cases h with
    | cons r t =>
      obtain ⟨k, rfl⟩ := r
      exact StrsAre.cons x k (Vals.strs t)
theorem Vals.ref1 {a : Addr} {us : List Value} (r : Vals [V.ref a] us) : us = [Value.ref a] := by
  cases r with
  | cons r t =>
    cases t
    cases r
    rfl
section
variable {prog : Program} {w : World} {A : Around} {E : Value → Shared → Prop} {s : Shared} {l : Addr} {its : List Value} {ns : List Int} {Q : Value → Shared → Prop}
theorem sum_raw (hh : A.handled = none) (hl : s.heap.IsList l its.toArray) (hi : IntsAre its ns)
    (h : ∀ h' tk t', (∀ b o, s.heap.get? b = some o → h'.get? b = some o) → Q (.int ns.sum t') { s with heap := h', toks := tk }) : wpAny (model prog w) A (call (.builtin "sum") [.ref l]) Q E s := by
  obtain ⟨xs, e⟩ := hi.allInts.items
  have hn : numsOf (intItems xs).toList = ns := by rw [← e]; exact hi.numsOf
  rw [nums_intItems] at hn
  rw [e] at hl
  refine PySem.sum_intListG hh hl fun h' tk t' hk => ?_
  have := h h' tk t' hk
  rw [preSum_eq, List.take_of_length_le (by simp), hn]; exact this
end
section
variable {X : Cx}
def rSum (K : PySem.W.Frag) : List V → Hp → VK → Prop := fun vs H Q => ∃ (a : Addr) (ns : List Int), vs = [V.ref a] ∧ SqL K H a (ns.map V.int) ∧ Q (.int ns.sum) H
theorem cr_sum (hc : X.calm = true) : CallR X (.builtin "sum") (rSum X.K) := by
  intro pins s σ H vs us Q I r h
  obtain ⟨a, ns, rfl, hs, q⟩ := h
  obtain ⟨its, rv, hl, _⟩ := I.list hs
  rw [Vals.ref1 r]
  exact sum_raw (I.ok.hd hc) hl.isList rv.ints fun h' tk t' hk => ⟨.int _, H, I.kept hk, ⟨_, rfl⟩, q⟩
end
section
variable {X : Cx}
end
section
variable {X : Cx}
end
section
variable {X : Cx}
end
mutual
inductive Dp (K : PySem.W.Frag) (H : Hp) : V → PyData → Prop
  | non : Dp K H .non .none
  | bl (b : Bool) : Dp K H (.bl b) (.bool b)
  | int (i : Int) : Dp K H (.int i) (.int i)
  | str (x : Str) : Dp K H (.str x) (.str x)
  | lst {a : Addr} {xs : List V} {ds : List PyData} : SqL K H a xs → DpAll K H xs ds → Dp K H (.ref a) (.list ds)
  | tup {a : Addr} {xs : List V} {ds : List PyData} : SqT K H a xs → DpAll K H xs ds → Dp K H (.ref a) (.tuple ds)
inductive DpAll (K : PySem.W.Frag) (H : Hp) : List V → List PyData → Prop
  | nil : DpAll K H [] []
  | cons {v : V} {vs : List V} {d : PyData} {ds : List PyData} : Dp K H v d → DpAll K H vs ds → DpAll K H (v :: vs) (d :: ds)
end
section
variable {X : Cx} {pins : List (Addr × Obj)} {σ : St} {H : Hp} {s : Shared}
mutual
theorem Dp.reads (I : Inv X pins σ H s) : ∀ (d : PyData) (v : V) (u : Value), Dp X.K H v d → RelV v u → ∃ as, Reads s.heap u d as
  | .none, _, _, h, r => by
    cases h
    cases r
    exact ⟨_, Reads.none⟩
  | .bool b, _, _, h, r => by
    cases h
    cases r
    exact ⟨_, Reads.bool b⟩
  | .int i, _, _, h, r => by
    cases h
    obtain ⟨t, rfl⟩ := r
    exact ⟨_, Reads.int i t⟩
  | .str x, _, _, h, r => by
    cases h
    obtain ⟨t, rfl⟩ := r
    exact ⟨_, Reads.str x t⟩
  | .list ds, _, _, h, r => by
    cases h with
    | lst hs ha =>
      cases r
      obtain ⟨its, rv, ⟨o, n, ho, hc, _, hd⟩, _⟩ := I.list hs
      obtain ⟨as, hr⟩ := Dp.readsAll I ds _ its ha rv
      exact ⟨_, Reads.list ho hc hd hr⟩
  | .tuple ds, _, _, h, r => by
    cases h with
    | tup hs ha =>
      cases r
      obtain ⟨its, rv, ⟨o, ho, hc, n, hd⟩, _⟩ := I.tuple hs
      obtain ⟨as, hr⟩ := Dp.readsAll I ds _ its ha rv
      exact ⟨_, Reads.tuple ho hc hd hr⟩
  | .dict _, _, _, h, _ => by cases h
theorem Dp.readsAll (I : Inv X pins σ H s) : ∀ (ds : List PyData) (vs : List V) (us : List Value), DpAll X.K H vs ds → Vals vs us → ∃ as, ReadsAll s.heap us ds as
  | [], _, _, h, r => by
    cases h
    cases r
    exact ⟨_, ReadsAll.nil⟩
  | d :: ds, _, _, h, r => by
    cases h with
    | cons h1 h2 =>
      cases r with
      | cons r1 r2 =>
        obtain ⟨as, q1⟩ := Dp.reads I d _ _ h1 r1
        obtain ⟨bs, q2⟩ := Dp.readsAll I ds _ _ h2 r2
        exact ⟨_, ReadsAll.cons q1 q2⟩
end
end
section
variable {X : Cx}
def rNeD (K : PySem.W.Frag) : R2 := fun x y H Q => ∃ d e, Dp K H x d ∧ Dp K H y e ∧ SeqAt.shaped d = true ∧ SeqAt.shaped e = true ∧ Q (.bl (!PyData.eqv d e)) H
theorem op_neD (hu : X.A.units + 64 < cLine) : OpR X (compareOp .NotEq) (rNeD X.K) := by
  intro pins s σ H x y v u Q I rx ry h
  obtain ⟨d, e, hd, he, sd, se, q⟩ := h
  obtain ⟨as, r1⟩ := Dp.reads I d x v hd rx
  obtain ⟨bs, r2⟩ := Dp.reads I e y u he ry
  exact SeqAt.compareNe_shaped r1 r2 sd se hu ⟨.bl _, H, I, rfl, q⟩
end
end L2
namespace L2
open PySem PySem.Spec PyProof.Rows
abbrev CellAt (h : Heap) (c : Addr) (v : Option Value) : Prop := h.IsCell c v
def relS (scope sc : Scope) : Scope :=
  { scope with names := scope.names.map fun (n, k) => if (k == .free && sc.kind == .function && sc.names.lookup n == some .cell) then (n, .cell) else (n, k) }
def cloFrom (cells : List (Str × Addr)) : List (Str × NameKind) → List (Str × Addr) → List (Str × Addr)
  | [], acc => acc
  | (n, k) :: r, acc => if k == .free then cloFrom cells r ((n, (cells.lookup n).getD 0) :: acc) else cloFrom cells r acc
theorem closure_loop (env : Env) (f : Str × NameKind → List (Str × Addr) → Sem (ForInStep (List (Str × Addr))))
    (hf : ∀ n k c, f (n, k) c = if k == .free then (do let a ← cellOf env n; pure (.yield ((n, a) :: c))) else pure (.yield c)) :
    ∀ (names : List (Str × NameKind)) (acc : List (Str × Addr)), (∀ y ∈ names, y.2 = .free → ∃ c, env.cells.lookup y.1 = some c) → forIn names acc f = pure (cloFrom env.cells names acc)
  | [], acc, _ => by rw [List.forIn_nil]; rfl
  | (n, k) :: r, acc, h => by
    rw [List.forIn_cons, hf]
    have ih := fun acc => closure_loop env f hf r acc fun y hy => h y (List.mem_cons_of_mem _ hy)
    unfold cloFrom
    by_cases hk : (k == NameKind.free) = true
    · rw [if_pos hk, if_pos hk]
      obtain ⟨c, hc⟩ := h (n, k) List.mem_cons_self (by simpa using hk)
      have e : cellOf env n = pure c := by unfold cellOf; rw [hc]
      rw [e]
      have e2 : (env.cells.lookup n).getD 0 = c := by rw [hc]; rfl
      rw [e2]
      exact ih _
    · rw [if_neg hk, if_neg hk]
      exact ih _
theorem closure_ok {scope : Scope} {env : Env} (h : ∀ y ∈ scope.names, y.2 = .free → ∃ c, env.cells.lookup y.1 = some c) : closureFor scope env = pure (cloFrom env.cells scope.names []) := by
  simp only [closureFor]
  rw [closure_loop env _ (fun n k c => rfl) scope.names [] h]
  rfl
theorem mem_lookup {α : Type} : ∀ {l : List (Str × α)} {n : Str} {c : α}, (n, c) ∈ l → ∃ c', l.lookup n = some c'
  | (k, v) :: r, n, c, h => by
    rw [List.lookup_cons]
    cases hb : n == k with
    | true => exact ⟨_, rfl⟩
    | false =>
      rcases List.mem_cons.mp h with e | h
      · cases e; simp at hb
      · exact mem_lookup h
theorem cloFrom_mem {cells : List (Str × Addr)} : ∀ {names : List (Str × NameKind)} {acc : List (Str × Addr)} {n : Str} {c : Addr}, (n, c) ∈ cloFrom cells names acc → (n, c) ∈ acc ∨ ((n, .free) ∈ names ∧ c = (cells.lookup n).getD 0)
  | [], _, _, _, h => .inl h
  | (m, k) :: r, acc, n, c, h => by
    unfold cloFrom at h
    split at h
    · rename_i hk
      have hk : k = .free := by simpa using hk
      rcases cloFrom_mem h with h | ⟨h1, h2⟩
      · rcases List.mem_cons.mp h with e | h
        · cases e; exact .inr ⟨hk ▸ List.mem_cons_self, rfl⟩
        · exact .inl h
      · exact .inr ⟨List.mem_cons_of_mem _ h1, h2⟩
    · rcases cloFrom_mem h with h | ⟨h1, h2⟩
      · exact .inl h
      · exact .inr ⟨List.mem_cons_of_mem _ h1, h2⟩
theorem cloFrom_acc {cells : List (Str × Addr)} : ∀ {names : List (Str × NameKind)} {acc : List (Str × Addr)} {p : Str × Addr}, p ∈ acc → p ∈ cloFrom cells names acc
  | [], _, _, h => h
  | (m, k) :: r, acc, p, h => by
    unfold cloFrom
    split
    · exact cloFrom_acc (List.mem_cons_of_mem _ h)
    · exact cloFrom_acc h
theorem cloFrom_has {cells : List (Str × Addr)} : ∀ {names : List (Str × NameKind)} {acc : List (Str × Addr)} {n : Str}, (n, .free) ∈ names → (n, (cells.lookup n).getD 0) ∈ cloFrom cells names acc
  | (m, k) :: r, acc, n, h => by
    unfold cloFrom
    rcases List.mem_cons.mp h with e | h
    · cases e
      exact cloFrom_acc List.mem_cons_self
    · split
      · exact cloFrom_has h
      · exact cloFrom_has h
theorem cells_mem : ∀ {names : List (Str × NameKind)} {h : Heap} {acc : List (Str × Addr)} {x : Str} {c : Addr}, (x, c) ∈ cellsFrom h.objs.size names acc →
    (x, c) ∈ acc ∨ ((x, .cell) ∈ names ∧ h.objs.size ≤ c ∧ CellAt (pushCells h names) c none)
  | [], _, _, _, _, h => .inl h
  | (n, k) :: r, h, acc, x, c, hm => by
    unfold cellsFrom at hm
    unfold pushCells
    split at hm
    · rename_i hk
      rw [if_pos hk]
      have hk : k = .cell := by simpa using hk
      rw [← Heap.size_push h { cls := .type "cell", data := .cell none }] at hm
      rcases cells_mem hm with hm | ⟨h1, h2, h3⟩
      · rcases List.mem_cons.mp hm with e | hm
        · cases e
          exact .inr ⟨hk ▸ List.mem_cons_self, Nat.le_refl _, _, pushCells_keeps r _ _ _ (Heap.get?_push_size _ rfl), rfl⟩
        · exact .inl hm
      · rw [Heap.size_push] at h2
        exact .inr ⟨List.mem_cons_of_mem _ h1, Nat.le_of_succ_le h2, h3⟩
    · rename_i hk
      rw [if_neg hk]
      rcases cells_mem hm with hm | ⟨h1, h2, h3⟩
      · exact .inl hm
      · exact .inr ⟨List.mem_cons_of_mem _ h1, h2, h3⟩
theorem cells_acc : ∀ {names : List (Str × NameKind)} {n : Nat} {acc : List (Str × Addr)} {p : Str × Addr}, p ∈ acc → p ∈ cellsFrom n names acc
  | [], _, _, _, h => h
  | (m, k) :: r, n, acc, p, h => by
    unfold cellsFrom
    split
    · exact cells_acc (List.mem_cons_of_mem _ h)
    · exact cells_acc h
theorem cells_has : ∀ {names : List (Str × NameKind)} {n : Nat} {acc : List (Str × Addr)} {x : Str}, (x, .cell) ∈ names → ∃ c, (x, c) ∈ cellsFrom n names acc
  | (m, k) :: r, n, acc, x, h => by
    unfold cellsFrom
    rcases List.mem_cons.mp h with e | h
    · cases e
      exact ⟨n, cells_acc List.mem_cons_self⟩
    · split
      · exact cells_has h
      · exact cells_has h
theorem cells_inj : ∀ {names : List (Str × NameKind)} {h : Heap} {acc : List (Str × Addr)} {x y : Str} {c : Addr}, (∀ p ∈ acc, p.2 < h.objs.size) → (∀ x y c, (x, c) ∈ acc → (y, c) ∈ acc → x = y) →
    (x, c) ∈ cellsFrom h.objs.size names acc → (y, c) ∈ cellsFrom h.objs.size names acc → x = y
  | [], _, _, _, _, _, _, hi, h1, h2 => hi _ _ _ h1 h2
  | (n, k) :: r, h, acc, x, y, c, hl, hi, h1, h2 => by
    unfold cellsFrom at h1 h2
    split at h1
    · rename_i hk
      rw [if_pos hk] at h2
      rw [← Heap.size_push h { cls := .type "cell", data := .cell none }] at h1 h2
      refine cells_inj (h := h.push _) (fun p hp => ?_) (fun x y c a b => ?_) h1 h2
      · rw [Heap.size_push]
        rcases List.mem_cons.mp hp with rfl | hp
        · exact Nat.lt_succ_self _
        · exact Nat.lt_succ_of_lt (hl p hp)
      · rcases List.mem_cons.mp a with e | a <;> rcases List.mem_cons.mp b with e' | b
        · cases e; cases e'; rfl
        · cases e; exact absurd (hl _ b) (Nat.lt_irrefl _)
        · cases e'; exact absurd (hl _ a) (Nat.lt_irrefl _)
        · exact hi _ _ _ a b
    · rename_i hk
      rw [if_neg hk] at h2
      exact cells_inj hl hi h1 h2
theorem newEnv_comp {M : Model} {A : Around} {E : Value → Shared → Prop} {s : Shared} {scope : Scope} {globals : Addr} {closure : List (Str × Addr)} {qual : Str} {func : Option Addr} {code : Value} {around : Env} {builtins : Addr} {Q : Env → Shared → Prop}
    (h : Q (newEnv scope s.heap.objs.size globals (cellsFrom (s.heap.objs.size + 1) scope.names closure) qual func code (some around) builtins)
      { s with heap := pushCells (s.heap.push { cls := .type "dict", data := .dict #[] }) scope.names }) :
    wpAny M A (newFunctionEnv scope globals closure [] qual func code (some around) builtins) Q E s := by
  simp only [newFunctionEnv, Option.isSome_some, if_true]
  refine wpAny_bind (wpAny_alloc ?_)
  refine wpAny_bind (wpAny_layCells _ (fun n k c => rfl) scope.names closure _ _ ?_)
  rw [show ({ s with heap := s.heap.push { cls := .type "dict", data := .dict #[] } } : Shared).heap.objs.size = s.heap.objs.size + 1 from Heap.size_push ..]
  rw [List.forIn_nil]
  exact wpAny_bind (wpAny_pure (wpAny_pure h))
theorem lookup_relS {sc : Scope} : ∀ {names : List (Str × NameKind)} {x : Str} {k : NameKind},
    (names.map fun (n, k) => if (k == NameKind.free && sc.kind == .function && sc.names.lookup n == some .cell) then (n, NameKind.cell) else (n, k)).lookup x = some k →
    ∃ k', names.lookup x = some k' ∧ (k = k' ∨ (k' = .free ∧ k = .cell))
  | [], _, _, h => by simp at h
  | (n, k₀) :: r, x, k, h => by
    have ih := @lookup_relS sc r x k
    have h' : List.lookup x ((if (k₀ == NameKind.free && sc.kind == .function && sc.names.lookup n == some .cell) = true then (n, NameKind.cell) else (n, k₀)) :: (r.map _)) = some k := h
    cases hx : x == n with
    | true =>
      simp only [List.lookup_cons, hx]
      by_cases hc : (k₀ == NameKind.free && sc.kind == .function && sc.names.lookup n == some .cell) = true
      · rw [if_pos hc] at h'
        simp only [List.lookup_cons, hx] at h'
        cases h'
        simp only [Bool.and_eq_true, beq_iff_eq] at hc
        exact ⟨k₀, rfl, .inr ⟨hc.1.1, rfl⟩⟩
      · rw [if_neg hc] at h'
        simp only [List.lookup_cons, hx] at h'
        cases h'
        exact ⟨_, rfl, .inl rfl⟩
    | false =>
      simp only [List.lookup_cons, hx]
      by_cases hc : (k₀ == NameKind.free && sc.kind == .function && sc.names.lookup n == some .cell) = true
      · rw [if_pos hc] at h'
        simp only [List.lookup_cons, hx] at h'
        exact ih h'
      · rw [if_neg hc] at h'
        simp only [List.lookup_cons, hx] at h'
        exact ih h'
structure BlkOk (N : List Str) (sc scope : Scope) (own : List (Str × Nat)) : Prop where
  kind : scope.kind = .function
  uniq : ∀ y ∈ scope.names, scope.names.lookup y.1 = some y.2
  ix : ∀ p ∈ own, N[p.2]? = some p.1
  free : ∀ y ∈ scope.names, y.2 = .free → sc.names.lookup y.1 = some .cell ∨ sc.names.lookup y.1 = some .free
  own : ∀ y ∈ scope.names, y.2 = .local ∨ y.2 = .cell → y.1 ∈ own.map (·.1) ∨ y.1 ∉ N
def wipe (σ : St) : List Nat → St
  | [] => σ
  | v :: vs => (wipe σ vs).set v none
theorem wipe_length (σ : St) : ∀ vs : List Nat, (wipe σ vs).length = σ.length
  | [] => rfl
  | v :: vs => by unfold wipe; rw [List.length_set, wipe_length σ vs]
theorem wipe_some {σ : St} {i : Nat} {x : V} : ∀ {vs : List Nat}, (wipe σ vs)[i]? = some (some x) → σ[i]? = some (some x) ∧ i ∉ vs
  | [], h => ⟨h, by simp⟩
  | v :: vs, h => by
    unfold wipe at h
    by_cases hi : v = i
    · subst hi
      by_cases hv : v < (wipe σ vs).length
      · rw [List.getElem?_set_self hv] at h; cases h
      · rw [List.getElem?_eq_none (by simpa using hv)] at h; cases h
    · rw [List.getElem?_set_ne hi] at h
      obtain ⟨h1, h2⟩ := wipe_some h
      exact ⟨h1, by simp only [List.mem_cons, not_or]; exact ⟨fun e => hi e.symm, h2⟩⟩
abbrev Cx.blk (X : Cx) (s : Shared) (H : Hp) (scope : Scope) (cenv : Env) (fp : List Addr) : Cx := { X with s_0 := s, H_0 := H, env := cenv, outer := X.stack, ex := fp, fn := fun x => scope.names.lookup x == some .cell, pn := [], xe := fun _ _ => False }
section
variable {X : Cx} {pins : List (Addr × Obj)} {σ : St} {H : Hp} {s : Shared}
theorem block_start {scope : Scope} {own : List (Str × Nat)} {fp : List Addr} (I : Inv X pins σ H s) (ok : BlkOk X.N X.env.scope scope own) (hN : X.N.Nodup) (hfp : ∀ b ∈ fp, FpOk X pins H b ∧ b < s.heap.objs.size) :
    Inv (X.blk s H scope (compEnvC scope (cellsFrom (s.heap.objs.size + 1) scope.names (cloFrom X.env.cells scope.names [])) s.heap.objs.size X.env) fp) [] (wipe σ (own.map (·.2))) H { s with heap := pushCells (s.heap.push { cls := .type "dict", data := .dict #[] }) scope.names } := by
  have hfree : ∀ y ∈ scope.names, y.2 = .free → ∃ c, X.env.cells.lookup y.1 = some c := fun y hy e => by
    rcases ok.free y hy e with k | k
    · exact I.ok.has _ (.inl k)
    · exact I.ok.has _ (.inr k)
  generalize hcenv : compEnvC scope (cellsFrom (s.heap.objs.size + 1) scope.names (cloFrom X.env.cells scope.names [])) s.heap.objs.size X.env = cenv
  have kp : ∀ b o, s.heap.get? b = some o → (pushCells (s.heap.push { cls := .type "dict", data := .dict #[] }) scope.names).get? b = some o := fun b o e => pushCells_keeps _ _ _ _ (Heap.get?_push_of_some _ e)
  have hL : cenv.locals = s.heap.objs.size := by rw [← hcenv]; rfl
  have hcl : cenv.cells = cellsFrom (s.heap.objs.size + 1) scope.names (cloFrom X.env.cells scope.names []) := by rw [← hcenv]; rfl
  have hsc : cenv.scope = relS scope X.env.scope := by rw [← hcenv]; rfl
  rw [← Heap.size_push s.heap { cls := .type "dict", data := .dict #[] }] at hcl
  have cm : ∀ {y c}, (y, c) ∈ cloFrom X.env.cells scope.names [] → X.env.cells.lookup y = some c ∧ c < s.heap.objs.size := fun {y c} hm => by
    rcases cloFrom_mem hm with hm | ⟨h1, rfl⟩
    · cases hm
    · obtain ⟨c, hc⟩ := hfree _ h1 rfl
      rw [hc]
      obtain ⟨w, z⟩ := I.cell _ _ hc
      exact ⟨rfl, z.lt⟩
  have mem : ∀ {y c}, cenv.cells.lookup y = some c → (X.env.cells.lookup y = some c ∧ c < s.heap.objs.size) ∨ (s.heap.objs.size + 1 ≤ c ∧ CellAt (pushCells (s.heap.push { cls := .type "dict", data := .dict #[] }) scope.names) c none) := fun {y c} e => by
    rw [hcl] at e
    rcases cells_mem (PySem.mem_of_lookup e) with hm | ⟨_, h2, h3⟩
    · exact .inl (cm hm)
    · rw [Heap.size_push] at h2; exact .inr ⟨h2, h3⟩
  have look : ∀ {y}, scope.names.lookup y = some .free → ∃ c, cenv.cells.lookup y = some c ∧ X.env.cells.lookup y = some c := fun {y} hl => by
    have hy : (y, NameKind.free) ∈ scope.names := PySem.mem_of_lookup hl
    obtain ⟨c', e'⟩ := mem_lookup (cells_acc (names := scope.names) (n := (s.heap.push { cls := .type "dict", data := .dict #[] }).objs.size) (cloFrom_has (cells := X.env.cells) (acc := []) hy))
    rw [← hcl] at e'
    refine ⟨c', e', ?_⟩
    rw [hcl] at e'
    rcases cells_mem (PySem.mem_of_lookup e') with hm | ⟨h1, _, _⟩
    · exact (cm hm).1
    · have := ok.uniq _ h1
      rw [hl] at this; cases this
  have okB : (X.blk s H scope cenv fp).Ok := by
    refine ⟨I.ok.mod, by show cenv.scope.kind = _; rw [hsc]; exact ok.kind, by show cenv.globals = _; rw [← hcenv]; exact I.ok.glob, by show cenv.builtins = _; rw [← hcenv]; exact I.ok.blt, by show s.heap.objs.size ≤ cenv.locals; rw [hL]; exact Nat.le_refl _,
      fun y z c e1 e2 => ?_, fun y hy => ?_, fun y c z e => ?_, I.ok.hd, I.ok.frames, .inl rfl, fun b hb => ⟨?_, fun y c e z => ?_⟩, I.bs, Nat.le_trans I.ok.bsz I.sz, fun b o e hb => ?_, fun b hb z => ?_, I.stack, I.stkFree⟩
    · have e1 : cenv.cells.lookup y = some c := e1
      have e2 : cenv.cells.lookup z = some c := e2
      rw [hcl] at e1 e2
      refine cells_inj (fun p hp => ?_) (fun y z c a b => I.ok.inj y z c (cm a).1 (cm b).1) (PySem.mem_of_lookup e1) (PySem.mem_of_lookup e2)
      rw [Heap.size_push]
      exact Nat.lt_succ_of_lt (cm (y := p.1) (c := p.2) hp).2
    · show ∃ c, cenv.cells.lookup y = some c
      have key : ∀ k, cenv.kindOf y = some k → (k = .cell ∨ k = .free) → ∃ c, cenv.cells.lookup y = some c := fun k hk hk' => by
        unfold Env.kindOf at hk
        rw [hsc] at hk
        obtain ⟨k', e, r⟩ := lookup_relS hk
        have : k' = .cell ∨ k' = .free := by
          rcases r with rfl | ⟨rfl, _⟩
          · exact hk'
          · exact .inr rfl
        rcases this with rfl | rfl
        · obtain ⟨c, hm⟩ := cells_has (n := (s.heap.push { cls := .type "dict", data := .dict #[] }).objs.size) (acc := cloFrom X.env.cells scope.names []) (PySem.mem_of_lookup e)
          obtain ⟨c', e'⟩ := mem_lookup hm
          exact ⟨c', by rw [hcl]; exact e'⟩
        · obtain ⟨c, h1, _⟩ := look e
          exact ⟨c, h1⟩
      rcases hy with hy | hy
      · exact key _ hy (.inl rfl)
      · exact key _ hy (.inr rfl)
    · have z : (scope.names.lookup y == some NameKind.cell) = true := z
      have z : scope.names.lookup y = some .cell := by simpa using z
      have e : cenv.cells.lookup y = some c := e
      rw [hcl] at e
      rcases cells_mem (PySem.mem_of_lookup e) with hm | ⟨_, h2, _⟩
      · rcases cloFrom_mem hm with hm | ⟨h1, _⟩
        · cases hm
        · have q := ok.uniq _ h1
          rw [z] at q; cases q
      · rw [Heap.size_push] at h2
        exact Nat.le_of_succ_le h2
    · show b ≠ cenv.locals
      rw [hL]; exact Nat.ne_of_lt (hfp b hb).2
    · have e : cenv.cells.lookup y = some c := e
      rcases mem e with ⟨h1, _⟩ | ⟨h1, _⟩
      · exact (hfp b hb).1.2.2.2.2.1 y c h1 z
      · have h2 : s.heap.objs.size + 1 ≤ b := by rw [← z]; exact h1
        exact absurd (Nat.lt_of_lt_of_le (hfp b hb).2 (Nat.le_of_succ_le h2)) (Nat.lt_irrefl _)
    · rcases (hfp b hb).1.2.2.2.1 with z | z
      · exact I.ok.noex b o e z
      · exact absurd (Nat.lt_of_lt_of_le (Heap.lt_size e) (Nat.le_trans I.ok.bsz z)) (Nat.lt_irrefl _)
    · rcases List.mem_cons.mp (I.stkSub b z) with z | z
      · exact (hfp b hb).1.2.1 z
      · exact (hfp b hb).1.2.2.1 z
  refine ⟨okB, rfl, I.bare, Un.kept kp, ⟨fun _ => none, ?_, fun i y av e1 e2 e3 => ?_⟩, fun y c e => ?_, ?_, fun y c e => ?_, fun p hp => ?_, I.hok.kept kp, by rw [wipe_length]; exact I.len⟩
  · show Heap.Ns _ cenv.locals _
    rw [hL]
    exact Heap.Ns.keeps (Heap.Ns.new ..) fun b o e => pushCells_keeps _ _ _ _ e
  · obtain ⟨e2, hne⟩ := wipe_some e2
    have hfr : scope.names.lookup y = some .free ∧ (cenv.kindOf y = some .cell ∨ cenv.kindOf y = some .free) := by
      have key : ∀ k, cenv.scope.names.lookup y = some k → k = .local ∨ k = .cell ∨ k = .free → scope.names.lookup y = some .free ∧ (cenv.kindOf y = some .cell ∨ cenv.kindOf y = some .free) := fun k hk hk' => by
        have hk0 := hk
        rw [hsc] at hk
        obtain ⟨k', e, r⟩ := lookup_relS hk
        have no : ¬ (k' = .local ∨ k' = .cell) := fun hh => by
          rcases ok.own _ (PySem.mem_of_lookup e) hh with e' | e'
          · obtain ⟨p, hp, hpy⟩ := List.mem_map.mp e'
            have e3 := ok.ix p hp
            have : p.1 = y := hpy
            rw [this] at e3
            exact hne (List.mem_map.mpr ⟨p, hp, nodup_ix hN e3 e1⟩)
          · exact e' (List.mem_of_getElem? e1)
        rcases r with rfl | ⟨rfl, rfl⟩
        · rcases hk' with rfl | rfl | rfl
          · exact absurd (.inl rfl) no
          · exact absurd (.inr rfl) no
          · exact ⟨e, .inr hk0⟩
        · exact ⟨e, .inl hk0⟩
      have e3 : Vis cenv.scope y := e3
      rcases e3 with e3 | e3 | e3
      · exact key _ e3 (.inl rfl)
      · exact key _ e3 (.inr (.inl rfl))
      · exact key _ e3 (.inr (.inr rfl))
    obtain ⟨m, hn, hl⟩ := I.loc
    have hvis : Vis X.env.scope y := (ok.free _ (PySem.mem_of_lookup hfr.1) rfl).elim (fun k => .inr (.inl k)) (fun k => .inr (.inr k))
    obtain ⟨w, r, q⟩ := hl i y av e1 e2 hvis
    refine ⟨w, r, .inr ⟨hfr.2, ?_⟩⟩
    obtain ⟨c, h1, h2⟩ := look hfr.1
    rcases q with ⟨k, _⟩ | ⟨_, c', e', z⟩
    · have k : X.env.scope.names.lookup y = some .local := k
      rcases ok.free _ (PySem.mem_of_lookup hfr.1) rfl with k' | k' <;> rw [show X.env.scope.names.lookup y = _ from k'] at k <;> cases k
    · rw [h2] at e'; cases e'
      exact ⟨c, h1, z.keeps kp⟩
  · have e : cenv.cells.lookup y = some c := e
    rcases mem e with ⟨h1, _⟩ | ⟨_, z⟩
    · obtain ⟨w, z⟩ := I.cell y c h1
      exact ⟨w, z.keeps kp⟩
    · exact ⟨_, z⟩
  · show H cenv.locals = none
    rw [hL]; exact I.hok.fresh (Nat.le_refl _)
  · have e : cenv.cells.lookup y = some c := e
    rcases mem e with ⟨h1, _⟩ | ⟨h1, _⟩
    · exact I.freeC y c h1
    · exact I.hok.fresh (Nat.le_of_succ_le h1)
  · exact absurd (show p ∈ ([] : List (Addr × Obj)) ++ [] from hp) (by simp)
theorem app_ok {E : Value → Shared → Prop} {D : Addr} {xs : List V} {y : V} {v : Value} {Q : Value → Shared → Prop} (I : Inv X pins σ H s) (hD : H D = some (.lst xs)) (hz : xs.length < sizeLine) (r : RelV y v)
    (h : ∀ s', Inv X pins σ (upd H D (.lst (xs ++ [y]))) s' → Q .none s') : wpAny (model X.prog X.w) X.A (call (.builtin "list.append") [.ref D, v]) Q E s := by
  obtain ⟨hz', its, n, ri, e⟩ := I.hok D _ hD
  have hl := ri.length
  refine append_at (hsz := by rw [List.size_toArray]; omega) e fun h' sb ho' => ?_
  refine h { s with heap := h' } (I.write (t' := s.toks) (by rw [hD]; trivial) (.inl rfl) (fun b u hb q => (sb.2 b hb).trans q) ⟨_, ho'⟩ ⟨by rw [List.length_append]; exact hz, its ++ [v], n + 1, ri.append (.cons r .nil), ?_⟩)
  rw [ho']
  simp
def PTs (X : Cx) (ifs : List Expr) (t : TT) : Prop :=
  ∀ (pins : List (Addr × Obj)) (s : Shared) (σ : St) (H : Hp) (Q : Bool → Hp → Prop), Inv X pins σ H s → t σ H Q →
    wpAny (model X.prog X.w) X.A (forIn ifs true fun c r => if r = true then do let ok ← isTrue c X.env (eval c X.env); pure (ForInStep.yield ok) else pure (ForInStep.yield r)) (TP X pins σ Q) X.xe s
def tYes : TT := fun _ H Q => Q true H
theorem pts_nil : PTs X [] tYes := fun _ _ _ H _ I h => wpAny_tests_nil ⟨H, I, h⟩
theorem pts_one {c : Expr} {t : TT} (h : PT X c t) : PTs X [c] t := fun pins s σ H Q I hw => wpAny_tests_one (h pins s σ H Q I hw)
end
theorem thnF {α : Type} {t : Sem α} {Q Q' : α → Shared → Prop} {M : Model} {A : Around} {E : Value → Shared → Prop} {s : Shared} (h : wpAny M A t Q (fun _ _ => False) s) (hQ : ∀ a s, Q a s → Q' a s) : wpAny M A t Q' E s := wpAny_mono h hQ fun _ _ z => False.elim z
theorem compLoop_any {prog : Program} {w : World} {A : Around} {R : Result → Shared → Prop} {s : Shared} {elt target iter : Expr} {ifs : List Expr} {scope : Scope} {pos : Pos} {it acc : Value} {env : Env} (I : Nat → Shared → Prop)
    (turn : ∀ n s, I n s → wpAny (model prog w) A (pyNext it) (fun r s₁ => match r with
      | none => R (.ok .next) s₁
      | some v => wpAny (model prog w) A (letOwnedTupleGo target it v) (fun _ s₁' => wpAny (model prog w) A (assign target env v) (fun _ s₂ =>
          wpAny (model prog w) A (forIn ifs true fun c r => if r = true then do let ok ← isTrue c env (eval c env); pure (ForInStep.yield ok) else pure (ForInStep.yield r)) (fun ok s₃ =>
            if ok = true then wpAny (model prog w) A (eval elt env) (fun x s₄ =>
              wpAny (model prog w) A (call (.builtin "list.append") [acc, x]) (fun _ s₅ => ∃ m, m < n ∧ I m s₅) (notedBy (model prog w) A env fun e s' => R (.error e) s') s₄) (notedBy (model prog w) A env fun e s' => R (.error e) s') s₃
            else ∃ m, m < n ∧ I m s₃) (notedBy (model prog w) A env fun e s' => R (.error e) s') s₂) (notedBy (model prog w) A env fun e s' => R (.error e) s') s₁') (notedBy (model prog w) A env fun e s' => R (.error e) s') s₁) (notedBy (model prog w) A env fun e s' => R (.error e) s') s)
    (n : Nat) (h : I n s) :
    codeAny (model prog w) A (.compLoop (.ListComp elt [⟨target, iter, ifs, 0⟩] scope pos) 0 it acc env) R s := by
  refine codeAny_loop rfl I (fun n s hI => ?_) n h
  show wpAny _ A ((compTurn (.ListComp elt [⟨target, iter, ifs, 0⟩] scope pos) 0 it acc env).onRaise (fun x => do noteFrame x env; theTreesLotGoes x)) _ _ s
  refine wpAny_noted ?_
  rw [compTurn_list]
  refine wpAny_bind (wpAny_standAt (wpAny_bind (wpAny_mono (turn n s hI) (fun r s₁ h₁ => ?_) fun _ _ h' => h')))
  cases r with
  | none => exact wpAny_pure h₁
  | some v =>
    refine wpAny_bind (wpAny_mono h₁ (fun _ s₁' h₁' => ?_) fun _ _ h' => h')
    refine wpAny_bind (wpAny_mono h₁' (fun _ s₂ h₂ => wpAny_bind (wpAny_mono h₂ (fun ok s₃ h₃ => ?_) fun _ _ h' => h')) fun _ _ h' => h')
    cases ok with
    | false => exact wpAny_pure ⟨rfl, h₃⟩
    | true =>
      exact wpAny_bind (wpAny_bind (wpAny_mono h₃ (fun x s₄ h₄ => wpAny_bind (wpAny_mono h₄ (fun _ s₅ h₅ => wpAny_pure (wpAny_pure ⟨rfl, h₅⟩)) fun _ _ h' => h')) fun _ _ h' => h'))
section
variable {X : Cx}
def tLc (wi : TI) (g : TG) (tt : TT) (te : TE) (vs : List Nat) : TE := fun σ H Q => wi σ H fun J H1 => ∀ D, H1 D = none → ∃ W : Nat → Nat → Hp → Prop, (∃ m, W 0 m (upd H1 D (.lst []))) ∧ ∀ i m H, W i m H →
  (J.stop i H ∧ Q (.ref D) H) ∨ (J.go i H ∧ ∃ Nx : Hp → Prop, (∀ H', Nx H' → ∃ m', m' < m ∧ W (i + 1) m' H') ∧ ∀ x H', J.yld i H x H' → g x (wipe σ vs) H' fun σ2 H2 => wipe σ2 vs = wipe σ vs ∧ tt σ2 H2 fun b H3 =>
    if b = true then te σ2 H3 fun y H4 => ∃ acc, H4 D = some (.lst acc) ∧ acc.length < sizeLine ∧ Nx (upd H4 D (.lst (acc ++ [y]))) else Nx H3)
theorem lc_core {pins : List (Addr × Obj)} {s : Shared} {σ : St} {H : Hp} {Q : VK} {elt tg iter : Expr} {ifs : List Expr} {scope : Scope} {own : List (Str × Nat)} {pos pos' : Pos} {wi : TI} {g : TG} {tt : TT} {te : TE} {use : Option (Value → Sem Unit)} {Qf : Value → Shared → Prop}
    (hc : X.calm = true) (hN : X.N.Nodup) (I : Inv X pins σ H s) (hi : PI X tg iter wi) (ok : BlkOk X.N X.env.scope scope own)
    (hg : ∀ (s : Shared) (H : Hp) (C : Addr) (cl : List (Str × Addr)) (fp : List Addr), PG (X.blk s H scope (compEnvC scope cl C X.env) fp) tg g) (ht : ∀ (s : Shared) (H : Hp) (C : Addr) (cl : List (Str × Addr)) (fp : List Addr), PTs (X.blk s H scope (compEnvC scope cl C X.env) fp) ifs tt)
    (he : ∀ (s : Shared) (H : Hp) (C : Addr) (cl : List (Str × Addr)) (fp : List Addr), PE (X.blk s H scope (compEnvC scope cl C X.env) fp) elt te) (hs : ∀ x, foldedSetIterable iter X.env x = pure x)
    (h : tLc wi g tt te (own.map (·.2)) σ H Q)
    (hRR : ∀ D C s' m H', Inv X pins σ H' s' → Q (.ref D) H' → s'.heap.Ns C m → FpOk X pins H' C → compPost (model X.prog X.w) X.A X.xe use Qf (.ref D) C (.ok .next) s') :
    wpAny (model X.prog X.w) X.A (comprehension (.ListComp elt [⟨tg, iter, ifs, 0⟩] scope pos) scope X.env pos' (newList []) false (eval iter X.env) use) Qf X.xe s := by
  have hfree : ∀ y ∈ scope.names, y.2 = .free → ∃ c, X.env.cells.lookup y.1 = some c := fun y hy e => by
    rcases ok.free y hy e with k | k
    · exact I.ok.has _ (.inl k)
    · exact I.ok.has _ (.inr k)
  refine wpAny_comprehension_free (use := use) rfl hs (closure_ok hfree) ok.kind (fun y hy e => by rw [ok.uniq y hy, e])
    (thn (hi pins s σ H _ I h) fun xv s1 hx => thn hx fun itv s2 h2 => ?_)
  obtain ⟨it, fp, tn, J, H2, e, I2, T, st2, f2, q⟩ := h2
  subst e
  refine wpAny_newObj_type (newEnv_comp ?_) (by show 0 ≤ sizeLine; decide)
  generalize hD : s2.heap.objs.size = D
  have hDn : H2 D = none := I2.hok.fresh (Nat.le_of_eq hD)
  obtain ⟨W, ⟨m0, w0⟩, turn⟩ := q D hDn
  generalize hs3 : ({ s2 with heap := s2.heap.push { cls := .type "list", data := .seq ([] : List Value).toArray } } : Shared) = s3
  have I3 : Inv X pins σ (upd H2 D (.lst [])) s3 := by
    rw [← hs3]
    refine I2.laid (t' := s2.toks) (fun b o e => Heap.get?_push_of_some _ e) (Nat.le_of_eq hD) ⟨Nat.zero_le _, [], 0, .nil, ?_⟩
    rw [← hD]
    exact Heap.get?_push_size _ rfl
  have h3 : s3.heap = s2.heap.push { cls := .type "list", data := .seq ([] : List Value).toArray } := by rw [← hs3]
  have sz : ∀ b ∈ fp, b < s2.heap.objs.size := fun b hb => by
    obtain ⟨o, e, _⟩ := T.obj _ _ st2 b hb
    exact Heap.lt_size e
  have f3 : ∀ b ∈ fp, FpOk X pins (upd H2 D (.lst [])) b ∧ b < s3.heap.objs.size := fun b hb => by
    have hlt := sz b hb
    refine ⟨⟨?_, (f2 b hb).2⟩, by rw [h3, Heap.size_push]; exact Nat.lt_succ_of_lt hlt⟩
    rw [upd_ne (by rw [← hD]; exact Nat.ne_of_lt hlt)]
    exact (f2 b hb).1
  have st3 : tn 0 s3.heap := T.keep _ _ _ st2 fun b _ o e => by rw [h3]; exact Heap.get?_push_of_some _ e
  have I4 := block_start I3 ok hN f3
  have pg := hg s3 (upd H2 D (.lst [])) s3.heap.objs.size (cellsFrom (s3.heap.objs.size + 1) scope.names (cloFrom X.env.cells scope.names [])) fp
  have pt := ht s3 (upd H2 D (.lst [])) s3.heap.objs.size (cellsFrom (s3.heap.objs.size + 1) scope.names (cloFrom X.env.cells scope.names [])) fp
  have pe := he s3 (upd H2 D (.lst [])) s3.heap.objs.size (cellsFrom (s3.heap.objs.size + 1) scope.names (cloFrom X.env.cells scope.names [])) fp
  show codeAny _ _ (.compStart (.ListComp elt [⟨tg, iter, ifs, 0⟩] scope pos) 0 (.ref it) (.ref D) (compEnvC scope (cellsFrom (s3.heap.objs.size + 1) scope.names (cloFrom X.env.cells scope.names [])) s3.heap.objs.size X.env)) (compPost (model X.prog X.w) X.A X.xe use Qf (.ref D) s3.heap.objs.size) { s3 with heap := pushCells (s3.heap.push { cls := .type "dict", data := .dict #[] }) scope.names }
  have nfp : ∀ b ∈ fp, (upd H2 D (.lst [])) b = none := fun b hb => (f3 b hb).1.1
  generalize hce : compEnvC scope (cellsFrom (s3.heap.objs.size + 1) scope.names (cloFrom X.env.cells scope.names [])) s3.heap.objs.size X.env = ce at I4 pg pt pe ⊢
  have cL : ce.locals = s3.heap.objs.size := by subst hce; rfl
  generalize hH3 : upd H2 D (.lst []) = H3 at I3 I4 pg pt pe w0 nfp f3
  generalize hs4 : ({ s3 with heap := pushCells (s3.heap.push { cls := .type "dict", data := .dict #[] }) scope.names } : Shared) = s4 at I4 ⊢
  have st4 : tn 0 s4.heap := T.keep _ _ _ st3 fun b _ o e => by rw [← hs4]; exact pushCells_keeps _ _ _ _ (Heap.get?_push_of_some _ e)
  have stat : ∀ {σ' : St} {H' : Hp} {s' : Shared}, Inv (X.blk s3 H3 scope ce fp) [] σ' H' s' → (∀ b ∈ fp, H' b = none) → ∀ b ∈ fp, FpOk (X.blk s3 H3 scope ce fp) [] H' b := fun {σ' H' s'} I' hn b hb =>
    ⟨hn b hb, (I'.ok.exf b hb).1, I'.ok.exfs b hb, .inl hb, fun x c e => (I'.ok.exf b hb).2 x c e, fun p hp => absurd (show p ∈ ([] : List (Addr × Obj)) ++ [] from hp) (by simp)⟩
  have loop : codeAny (model X.prog X.w) X.A (.compLoop (.ListComp elt [⟨tg, iter, ifs, 0⟩] scope pos) 0 (.ref it) (.ref D) ce) (compPost (model X.prog X.w) X.A X.xe use Qf (.ref D) s3.heap.objs.size) s4 := by
    refine compLoop_any (fun n s' => ∃ i H', Inv (X.blk s3 H3 scope ce fp) [] (wipe σ (own.map (·.2))) H' s' ∧ tn i s'.heap ∧ (∀ b ∈ fp, H' b = none) ∧ W i n H') ?_ m0 ⟨0, H3, I4, st4, nfp, w0⟩
    rintro n s5 ⟨i, H5, I5, st5, n5, w5⟩
    rcases turn i n H5 w5 with ⟨stop, qq⟩ | ⟨go, Nx, hNx, step⟩
    · have td := T.done (X.blk s3 H3 scope ce fp) rfl rfl rfl hc i [] s5 _ H5 (fun _ _ => False) I5 (stat I5 n5) st5 stop
      refine thnF td fun r s6 ⟨hr, I6⟩ => ?_
      subst hr
      have I7 : Inv X pins σ H5 s6 := I3.call' (ch := fp) I6.os I6.base I6.hok I6.bare fun b hb => ⟨(f3 b hb).1.2.2.2.1, (f3 b hb).1.2.1, (f3 b hb).1.2.2.2.2.1, (f3 b hb).1.2.2.2.2.2⟩
      have nC : H5 s3.heap.objs.size = none := by
        have z : H5 ce.locals = none := I6.free
        rw [cL] at z
        exact z
      obtain ⟨m, hn, _⟩ := I6.loc
      have hn : s6.heap.Ns ce.locals m := hn
      rw [cL] at hn
      exact hRR D s3.heap.objs.size s6 m H5 I7 qq hn (I3.fpOk (Nat.le_refl _) nC)
    · have ti := T.item (X.blk s3 H3 scope ce fp) rfl rfl rfl hc i [] s5 _ H5 (fun _ _ => False) I5 (stat I5 n5) st5 go
      refine thnF ti fun r s6 ⟨u, hr, h6⟩ => ?_
      subst hr
      refine thnF h6 fun _ s7 ⟨x, H7, I7, r7, y7, st7, n7⟩ => ?_
      have I7' := I7.pinned (stat I7 n7) (T.obj _ _ st7)
      refine thnF (pg _ s7 _ H7 x u _ I7' r7 (step x H7 y7)) fun _ s8 ⟨σ8, H8, I8, hw8, q8⟩ => ?_
      refine thnF (pt _ s8 σ8 H8 _ I8 q8) fun b s9 ⟨H9, I9, q9⟩ => ?_
      have fin : ∀ {s' : Shared} {H' : Hp}, Inv (X.blk s3 H3 scope ce fp) ([] ++ pinsAt fp s7.heap) σ8 H' s' → Nx H' → ∃ m, m < n ∧ ∃ i H', Inv (X.blk s3 H3 scope ce fp) [] (wipe σ (own.map (·.2))) H' s' ∧ tn i s'.heap ∧ (∀ b ∈ fp, H' b = none) ∧ W i m H' := fun {s' H'} I' nx => by
        obtain ⟨m', hm, w'⟩ := hNx H' nx
        have pin' : ∀ b ∈ fp, ∀ o, s7.heap.get? b = some o → s'.heap.get? b = some o ∧ H' b = none := fun b hb o e =>
          let z := I'.pin (b, o) (List.mem_append_right _ (List.mem_append_right _ (mem_pinsAt hb e)))
          ⟨z.1, z.2.1⟩
        have hl : (wipe σ (own.map (·.2))).length = σ8.length := by rw [← hw8, wipe_length]
        refine ⟨m', hm, i + 1, H', (I'.unpinned (pins := [])).weak hl (fun j v e => ?_), T.keep _ _ _ st7 fun b hb o e => (pin' b hb o e).1, fun b hb => ?_, w'⟩
        · rw [← hw8] at e
          exact (wipe_some e).1
        · obtain ⟨o, e, _⟩ := T.obj _ _ st7 b hb
          exact (pin' b hb o e).2
      cases b with
      | false =>
        simp only [Bool.false_eq_true, if_false] at q9 ⊢
        exact fin I9 q9
      | true =>
        simp only [if_true] at q9 ⊢
        refine thnF (pe _ s9 σ8 H9 _ I9 q9) fun z s10 ⟨yv, H10, I10, r10, acc, hD10, hz10, nx⟩ => ?_
        exact app_ok (X := X.blk s3 H3 scope ce fp) I10 hD10 hz10 r10 fun s11 I11 => fin I11 nx
  exact codeAny_compStart_list loop (T.self X.A 0 _ _ _ st4 loop)
theorem pe_lc {elt tg iter : Expr} {ifs : List Expr} {scope : Scope} {own : List (Str × Nat)} {pos : Pos} {wi : TI} {g : TG} {tt : TT} {te : TE} (hc : X.calm = true) (hN : X.N.Nodup) (hi : PI X tg iter wi) (ok : BlkOk X.N X.env.scope scope own)
    (hg : ∀ (s : Shared) (H : Hp) (C : Addr) (cl : List (Str × Addr)) (fp : List Addr), PG (X.blk s H scope (compEnvC scope cl C X.env) fp) tg g) (ht : ∀ (s : Shared) (H : Hp) (C : Addr) (cl : List (Str × Addr)) (fp : List Addr), PTs (X.blk s H scope (compEnvC scope cl C X.env) fp) ifs tt)
    (he : ∀ (s : Shared) (H : Hp) (C : Addr) (cl : List (Str × Addr)) (fp : List Addr), PE (X.blk s H scope (compEnvC scope cl C X.env) fp) elt te) (hs : ∀ x, foldedSetIterable iter X.env x = pure x := by intro _; rfl) :
    PE X (.ListComp elt [⟨tg, iter, ifs, 0⟩] scope pos) (tLc wi g tt te (own.map (·.2))) := by
  intro pins s σ H Q I h
  rw [eval_ListComp]
  refine lc_core hc hN I hi ok hg ht he hs h fun D C s' m H' I' q hn f => ⟨m, hn, fun h'' sb => ?_⟩
  obtain ⟨f0, f1, f2, f3, f4, f5⟩ := f
  exact ⟨.ref D, H', I'.turned (t' := s'.toks) (fun b o hb e => (sb.2 b hb).trans e) f0 f1 f3 f4 f5, rfl, q⟩
theorem ps_setLc {i : Nat} {y : Str} {py : Pos} {elt tg iter : Expr} {ifs : List Expr} {scope : Scope} {own : List (Str × Nat)} {pos spos : Pos} {wi : TI} {g : TG} {tt : TT} {te : TE} (hc : X.calm = true) (hN : X.N.Nodup) (hy : X.N[i]? = some y) (hyl : X.env.scope.names.lookup y = some .local)
    (hsw : swapsWith (.ListComp elt [⟨tg, iter, ifs, 0⟩] scope pos) (some (.Name y py)) spos.line X.env = pure true) (hi : PI X tg iter wi) (ok : BlkOk X.N X.env.scope scope own)
    (hg : ∀ (s : Shared) (H : Hp) (C : Addr) (cl : List (Str × Addr)) (fp : List Addr), PG (X.blk s H scope (compEnvC scope cl C X.env) fp) tg g) (ht : ∀ (s : Shared) (H : Hp) (C : Addr) (cl : List (Str × Addr)) (fp : List Addr), PTs (X.blk s H scope (compEnvC scope cl C X.env) fp) ifs tt)
    (he : ∀ (s : Shared) (H : Hp) (C : Addr) (cl : List (Str × Addr)) (fp : List Addr), PE (X.blk s H scope (compEnvC scope cl C X.env) fp) elt te) (hs : ∀ x, foldedSetIterable iter X.env x = pure x := by intro _; rfl) :
    PS X (.Assign [.Name y py] (.ListComp elt [⟨tg, iter, ifs, 0⟩] scope pos) spos) (tAsg (tLc wi g tt te (own.map (·.2))) (gName i)) := by
  intro pins s σ H D I h
  rw [exec_Assign_Name_used _ _ _ _ hsw]
  refine wpAny_bind (wpAny_standAt (wpAny_bind ?_))
  show wpAny _ X.A (do let _ ← comprehension (.ListComp elt [⟨tg, iter, ifs, 0⟩] scope pos) scope X.env (firstIterPos [⟨tg, iter, ifs, 0⟩] pos) (newList []) false (eval iter X.env) (some (assign (.Name y py) X.env))) _ _ s
  have h : tLc wi g tt te (own.map (·.2)) σ H (fun x H1 => gName i x σ H1 D.nx) := h
  refine wpAny_bind (thn (lc_core (Qf := fun _ s' => SP X pins D .next s') hc hN I hi ok hg ht he hs h fun L C s' m H' I' q hn f => ?_) fun _ s' hq => wpAny_pure (wpAny_pure hq))
  show wpAny _ _ (assign (.Name y py) X.env (.ref L)) _ _ _
  refine wpAny_assign_Name (store_ok2 (v := V.ref L) I' hN hy (.inl hyl) rfl (fun s2 I2 ⟨a, sb, ha⟩ => ?_) (.inr hyl))
  obtain ⟨f0, f1, f2, f3, f4, f5⟩ := f
  have haC : C ≠ a := by
    rcases ha with z | z
    · rw [z]; exact f1
    · exact fun e => f4 y a z e.symm
  refine ⟨m, hn.sameBut sb haC, fun h3 sb3 => ?_⟩
  exact ⟨_, H', I2.turned (t' := s2.toks) (fun b o hb e => (sb3.2 b hb).trans e) f0 f1 f3 f4 f5, q⟩
theorem sw_true {elt : Expr} {gs : List Comprehension} {scope : Scope} {pos py : Pos} {y : Str} {l : Nat} {env : Env} (hk : env.scope.kind = .function) (hy : env.scope.names.lookup y = some .local) (hl : (py.line == pos.line) = true)
    (ha : (scope.names.any fun (n, k) => n == y && (k == .local || k == .cell)) = false) : swapsWith (.ListComp elt gs scope pos) (some (.Name y py)) l env = pure true := by
  have ky : env.kindOf y = some .local := hy
  have hb : env.blockKind = .function := by unfold Env.blockKind; rw [hk]; rfl
  unfold swapsWith
  simp only [hb, ky, ha, Expr.pos, hl]
  rfl
end
theorem lc_range {lo : Int} {n : Nat} {g : TG} {tt : TT} {te : TE} {vs : List Nat} {σ : St} {H1 : Hp} {D : Addr} {Qd : Hp → Prop} (Pv : Nat → Hp → Prop) (h0 : Pv 0 (upd H1 D (.lst [])))
    (hs : ∀ i H, i < n → Pv i H → g (.int (lo + i)) (wipe σ vs) H fun σ2 H2 => wipe σ2 vs = wipe σ vs ∧ tt σ2 H2 fun b H3 =>
      if b = true then te σ2 H3 fun y H4 => ∃ acc, H4 D = some (.lst acc) ∧ acc.length < sizeLine ∧ Pv (i + 1) (upd H4 D (.lst (acc ++ [y]))) else Pv (i + 1) H3) (hd : ∀ H, Pv n H → Qd H) :
    ∃ W : Nat → Nat → Hp → Prop, (∃ m, W 0 m (upd H1 D (.lst []))) ∧ ∀ i m H, W i m H →
      ((Itr lo n).stop i H ∧ Qd H) ∨ ((Itr lo n).go i H ∧ ∃ Nx : Hp → Prop, (∀ H', Nx H' → ∃ m', m' < m ∧ W (i + 1) m' H') ∧ ∀ x H', (Itr lo n).yld i H x H' → g x (wipe σ vs) H' fun σ2 H2 => wipe σ2 vs = wipe σ vs ∧ tt σ2 H2 fun b H3 =>
        if b = true then te σ2 H3 fun y H4 => ∃ acc, H4 D = some (.lst acc) ∧ acc.length < sizeLine ∧ Nx (upd H4 D (.lst (acc ++ [y]))) else Nx H3) := by
  refine ⟨fun i m H => m = n - i ∧ i ≤ n ∧ Pv i H, ⟨n, by simp, Nat.zero_le _, h0⟩, ?_⟩
  rintro i m H ⟨rfl, hi, p⟩
  by_cases hlt : i < n
  · refine .inr ⟨hlt, Pv (i + 1), fun H' p' => ⟨n - (i + 1), by omega, rfl, hlt, p'⟩, fun x H' y => ?_⟩
    obtain ⟨e, y⟩ := y
    subst e y
    exact hs i _ hlt p
  · have e : i = n := by omega
    subst e
    exact .inl ⟨Nat.le_refl _, hd H p⟩
theorem lc_list {K : PySem.W.Frag} {a : Addr} {xs : List V} {g : TG} {tt : TT} {te : TE} {vs : List Nat} {σ : St} {H1 : Hp} {D : Addr} {Qd : Hp → Prop} (Pv : Nat → Hp → Prop) (h0 : Pv 0 (upd H1 D (.lst []))) (hl : ∀ i H, i ≤ xs.length → Pv i H → SqL K H a xs)
    (hs : ∀ i x H, xs[i]? = some x → Pv i H → g x (wipe σ vs) H fun σ2 H2 => wipe σ2 vs = wipe σ vs ∧ tt σ2 H2 fun b H3 =>
      if b = true then te σ2 H3 fun y H4 => ∃ acc, H4 D = some (.lst acc) ∧ acc.length < sizeLine ∧ Pv (i + 1) (upd H4 D (.lst (acc ++ [y]))) else Pv (i + 1) H3) (hd : ∀ H, Pv xs.length H → Qd H) :
    ∃ W : Nat → Nat → Hp → Prop, (∃ m, W 0 m (upd H1 D (.lst []))) ∧ ∀ i m H, W i m H →
      ((Itl K a).stop i H ∧ Qd H) ∨ ((Itl K a).go i H ∧ ∃ Nx : Hp → Prop, (∀ H', Nx H' → ∃ m', m' < m ∧ W (i + 1) m' H') ∧ ∀ x H', (Itl K a).yld i H x H' → g x (wipe σ vs) H' fun σ2 H2 => wipe σ2 vs = wipe σ vs ∧ tt σ2 H2 fun b H3 =>
        if b = true then te σ2 H3 fun y H4 => ∃ acc, H4 D = some (.lst acc) ∧ acc.length < sizeLine ∧ Nx (upd H4 D (.lst (acc ++ [y]))) else Nx H3) := by
  refine ⟨fun i m H => m = xs.length - i ∧ i ≤ xs.length ∧ Pv i H, ⟨xs.length, by simp, Nat.zero_le _, h0⟩, ?_⟩
  rintro i m H ⟨rfl, hi, p⟩
  have q := hl i H hi p
  by_cases hlt : i < xs.length
  · refine .inr ⟨⟨xs, xs[i], q, by simp [hlt]⟩, Pv (i + 1), fun H' p' => ⟨xs.length - (i + 1), by omega, rfl, hlt, p'⟩, fun x H' y => ?_⟩
    obtain ⟨e, y⟩ := y
    subst e
    exact hs i x _ (y xs q) p
  · have e : i = xs.length := by omega
    subst e
    exact .inl ⟨⟨xs, q, Nat.le_refl _⟩, hd H p⟩
theorem lc_tup {K : PySem.W.Frag} {a : Addr} {xs : List V} {g : TG} {tt : TT} {te : TE} {vs : List Nat} {σ : St} {H1 : Hp} {D : Addr} {Qd : Hp → Prop} (Pv : Nat → Hp → Prop) (h0 : Pv 0 (upd H1 D (.lst []))) (hl : ∀ i H, i ≤ xs.length → Pv i H → SqT K H a xs)
    (hs : ∀ i x H, xs[i]? = some x → Pv i H → g x (wipe σ vs) H fun σ2 H2 => wipe σ2 vs = wipe σ vs ∧ tt σ2 H2 fun b H3 =>
      if b = true then te σ2 H3 fun y H4 => ∃ acc, H4 D = some (.lst acc) ∧ acc.length < sizeLine ∧ Pv (i + 1) (upd H4 D (.lst (acc ++ [y]))) else Pv (i + 1) H3) (hd : ∀ H, Pv xs.length H → Qd H) :
    ∃ W : Nat → Nat → Hp → Prop, (∃ m, W 0 m (upd H1 D (.lst []))) ∧ ∀ i m H, W i m H →
      ((Itt K a).stop i H ∧ Qd H) ∨ ((Itt K a).go i H ∧ ∃ Nx : Hp → Prop, (∀ H', Nx H' → ∃ m', m' < m ∧ W (i + 1) m' H') ∧ ∀ x H', (Itt K a).yld i H x H' → g x (wipe σ vs) H' fun σ2 H2 => wipe σ2 vs = wipe σ vs ∧ tt σ2 H2 fun b H3 =>
        if b = true then te σ2 H3 fun y H4 => ∃ acc, H4 D = some (.lst acc) ∧ acc.length < sizeLine ∧ Nx (upd H4 D (.lst (acc ++ [y]))) else Nx H3) := by
  refine ⟨fun i m H => m = xs.length - i ∧ i ≤ xs.length ∧ Pv i H, ⟨xs.length, by simp, Nat.zero_le _, h0⟩, ?_⟩
  rintro i m H ⟨rfl, hi, p⟩
  have q := hl i H hi p
  by_cases hlt : i < xs.length
  · refine .inr ⟨⟨xs, xs[i], q, by simp [hlt]⟩, Pv (i + 1), fun H' p' => ⟨xs.length - (i + 1), by omega, rfl, hlt, p'⟩, fun x H' y => ?_⟩
    obtain ⟨e, y⟩ := y
    subst e
    exact hs i x _ (y xs q) p
  · have e : i = xs.length := by omega
    subst e
    exact .inl ⟨⟨xs, q, Nat.le_refl _⟩, hd H p⟩
def blkC (N : List Str) (sc scope : Scope) (own : List (Str × Nat)) : Bool :=
  (match scope.kind with | .function => true | _ => false) && (scope.names.all fun y => decide (scope.names.lookup y.1 = some y.2)) && (own.all fun p => decide (N[p.2]? = some p.1)) &&
    (scope.names.all fun y => match y.2 with
      | .free => (match sc.names.lookup y.1 with | some .cell => true | some .free => true | _ => false)
      | .local => decide (y.1 ∈ own.map (·.1)) || decide (y.1 ∉ N)
      | .cell => decide (y.1 ∈ own.map (·.1)) || decide (y.1 ∉ N)
      | _ => true)
theorem blkOk_by {N : List Str} {sc scope : Scope} {own : List (Str × Nat)} (h : blkC N sc scope own = true) : BlkOk N sc scope own := by
  unfold blkC at h
  simp only [Bool.and_eq_true, List.all_eq_true, decide_eq_true_eq] at h
  obtain ⟨⟨⟨h1, h2⟩, h3⟩, h4⟩ := h
  refine ⟨?_, h2, h3, fun y hy e => ?_, fun y hy e => ?_⟩
  · split at h1
    · assumption
    · cases h1
  · have q := h4 y hy
    simp only [e] at q
    split at q <;> first | exact .inl (by assumption) | exact .inr (by assumption) | cases q
  · have q := h4 y hy
    rcases e with e | e <;> (simp only [e, Bool.or_eq_true, decide_eq_true_eq] at q; exact q)
end L2
namespace L2
open PySem PySem.Spec PyProof.Rows
section
variable {prog : Program} {w : World} {A : Around} {R : Result → Shared → Prop} {s : Shared} {elt t0 i0 t1 i1 : Expr} {ifs0 ifs1 : List Expr} {scope : Scope} {pos : Pos} {it acc : Value} {env : Env}
end
section
variable {X : Cx}
end
end L2
namespace L2
open PySem PySem.Spec PyProof.Rows
section
variable {κ : Type} [DecidableEq κ]
def valV (kvs : List (κ × V)) (k : κ) : Option V := (kvs.find? fun kv => decide (kv.1 = k)).map (·.2)
def putK (kvs : List (κ × V)) (k : κ) (v : V) : List (κ × V) :=
  if (kvs.any fun kv => decide (kv.1 = k)) = true then kvs.map (fun kv => if kv.1 = k then (kv.1, v) else kv) else kvs ++ [(k, v)]
def dropK (kvs : List (κ × V)) (k : κ) : List (κ × V) := kvs.filter fun kv => decide (kv.1 ≠ k)
theorem valV_pos {p : κ × V} {r : List (κ × V)} {k : κ} (e : p.1 = k) : valV (p :: r) k = some p.2 := by simp [valV, List.find?_cons, e]
theorem valV_neg {p : κ × V} {r : List (κ × V)} {k : κ} (e : ¬ p.1 = k) : valV (p :: r) k = valV r k := by simp [valV, List.find?_cons, e]
theorem valV_any (k : κ) : ∀ kvs : List (κ × V), (kvs.any fun kv => decide (kv.1 = k)) = (valV kvs k).isSome
  | [] => rfl
  | p :: r => by
    rw [List.any_cons]
    by_cases e : p.1 = k
    · simp only [valV_pos e, decide_eq_true e, Bool.true_or, Option.isSome_some]
    · rw [valV_neg e, decide_eq_false e, Bool.false_or]; exact valV_any k r
theorem RelO.isSome_eq {o : Option V} {u : Option Value} (r : RelO o u) : o.isSome = u.isSome := by
  cases o with
  | none => cases u with
    | none => rfl
    | some _ => exact (show False from r).elim
  | some _ => cases u with
    | none => exact (show False from r).elim
    | some _ => rfl
theorem RelO.getD {o : Option V} {u : Option Value} {d : V} {d' : Value} (r : RelO o u) (rd : RelV d d') : RelV (o.getD d) (u.getD d') := by
  cases o with
  | none => cases u with
    | none => exact rd
    | some _ => exact (show False from r).elim
  | some _ => cases u with
    | none => exact (show False from r).elim
    | some _ => exact r
theorem KV.val {kvs : List (κ × V)} {vs : List (κ × Value)} (r : KV kvs vs) (k : κ) : RelO (valV kvs k) (valueAt vs k) := by
  unfold KV at r
  induction r with
  | nil => exact True.intro
  | @cons p q ps qs h t ih =>
    obtain ⟨h1, h2⟩ := h
    by_cases e : p.1 = k
    · have e' : q.1 = k := h1.symm.trans e
      have b : valueAt (q :: qs) k = some q.2 := by simp [valueAt, List.find?_cons, e']
      rw [valV_pos e, b]; exact h2
    · have e' : ¬ q.1 = k := fun z => e (h1.trans z)
      have b : valueAt (q :: qs) k = valueAt qs k := by simp [valueAt, List.find?_cons, e']
      rw [valV_neg e, b]; exact ih
theorem KV.any {kvs : List (κ × V)} {vs : List (κ × Value)} (r : KV kvs vs) (k : κ) : (kvs.any fun kv => decide (kv.1 = k)) = vs.any fun kv => decide (kv.1 = k) := by
  unfold KV at r
  induction r with
  | nil => rfl
  | cons h t ih => rw [List.any_cons, List.any_cons, ih, h.1]
theorem KV.repl {kvs : List (κ × V)} {vs : List (κ × Value)} (r : KV kvs vs) (k : κ) {y : V} {u : Value} (ry : RelV y u) :
    KV (kvs.map fun kv => if kv.1 = k then (kv.1, y) else kv) (vs.map fun kv => if kv.1 = k then (kv.1, u) else kv) := by
  unfold KV at r ⊢
  induction r with
  | nil => exact .nil
  | @cons p q ps qs h t ih =>
    rw [List.map_cons, List.map_cons]
    refine .cons ?_ ih
    obtain ⟨h1, h2⟩ := h
    by_cases e : p.1 = k
    · rw [if_pos e, if_pos (h1.symm.trans e)]; exact ⟨h1, ry⟩
    · rw [if_neg e, if_neg (fun z => e (h1.trans z))]; exact ⟨h1, h2⟩
theorem KV.put {kvs : List (κ × V)} {vs : List (κ × Value)} (r : KV kvs vs) (k : κ) {y : V} {u : Value} (ry : RelV y u) : KV (putK kvs k y) (stored vs k u) := by
  unfold putK stored
  rw [r.any k]
  by_cases e : (vs.any fun kv => decide (kv.1 = k)) = true
  · rw [if_pos e, if_pos e]; exact r.repl k ry
  · rw [if_neg e, if_neg e]; exact Paired.snoc r ⟨rfl, ry⟩
theorem KV.drop {kvs : List (κ × V)} {vs : List (κ × Value)} (r : KV kvs vs) (k : κ) : KV (dropK kvs k) (without vs k) := by
  unfold KV at r ⊢
  unfold dropK without
  induction r with
  | nil => exact .nil
  | @cons p q ps qs h t ih =>
    obtain ⟨h1, h2⟩ := h
    rw [List.filter_cons, List.filter_cons]
    by_cases e : p.1 = k
    · have a : ¬ decide (p.1 ≠ k) = true := by simp [e]
      have b : ¬ decide (q.1 ≠ k) = true := by simp [h1.symm.trans e]
      rw [if_neg a, if_neg b]; exact ih
    · have e' : ¬ q.1 = k := fun z => e (h1.trans z)
      have a : decide (p.1 ≠ k) = true := by simp [e]
      have b : decide (q.1 ≠ k) = true := by simp [e']
      rw [if_pos a, if_pos b]; exact .cons ⟨h1, h2⟩ ih
theorem KV.length {kvs : List (κ × V)} {vs : List (κ × Value)} (r : KV kvs vs) : kvs.length = vs.length := Paired.length r
end
abbrev KT (H : Hp) : List (List Key × V) → List (List Key × Addr × Value) → Prop := Paired fun p q => p.1 = q.1 ∧ H q.2.1 = some (.tup (p.1.map kV)) ∧ RelV p.2 q.2.2
theorem KT.val {H : Hp} {kvs : List (List Key × V)} {xs : List (List Key × Addr × Value)} (r : KT H kvs xs) (k : List Key) : RelO (valV kvs k) ((atKey xs k).map (·.2)) := by
  induction r with
  | nil => exact True.intro
  | @cons p q ps qs h t ih =>
    obtain ⟨h1, _, h2⟩ := h
    by_cases e : p.1 = k
    · have e' : q.1 = k := h1.symm.trans e
      have b : atKey (q :: qs) k = some q.2 := by simp [atKey, List.find?_cons, e']
      rw [valV_pos e, b]; exact h2
    · have e' : ¬ q.1 = k := fun z => e (h1.trans z)
      have b : atKey (q :: qs) k = atKey qs k := by simp [atKey, List.find?_cons, e']
      rw [valV_neg e, b]; exact ih
theorem KT.repl {H : Hp} {kvs : List (List Key × V)} {xs : List (List Key × Addr × Value)} (r : KT H kvs xs) (k : List Key) {y : V} {u : Value} (ry : RelV y u) :
    KT H (kvs.map fun kv => if kv.1 = k then (kv.1, y) else kv) (xs.map (putAt k u)) := by
  induction r with
  | nil => exact .nil
  | @cons p q ps qs h t ih =>
    rw [List.map_cons, List.map_cons]
    refine .cons ?_ ih
    obtain ⟨h1, h2, h3⟩ := h
    unfold putAt
    by_cases e : p.1 = k
    · rw [if_pos e, if_pos (h1.symm.trans e)]; exact ⟨h1, h2, ry⟩
    · rw [if_neg e, if_neg (fun z => e (h1.trans z))]; exact ⟨h1, h2, h3⟩
theorem KT.put {H : Hp} {kvs : List (List Key × V)} {xs : List (List Key × Addr × Value)} (r : KT H kvs xs) (k : List Key) {b : Addr} {y : V} {u : Value} (hb : H b = some (.tup (k.map kV))) (ry : RelV y u) :
    KT H (putK kvs k y) (storedH xs k b u) := by
  have e : (kvs.any fun kv => decide (kv.1 = k)) = (atKey xs k).isSome := by
    rw [valV_any, (r.val k).isSome_eq, Option.isSome_map]
  unfold putK storedH
  rw [e]
  by_cases q : (atKey xs k).isSome = true
  · rw [if_pos q, if_pos q]; exact r.repl k ry
  · rw [if_neg q, if_neg q]; exact Paired.snoc r ⟨rfl, hb, ry⟩
theorem KT.keeps {H H' : Hp} {kvs : List (List Key × V)} {xs : List (List Key × Addr × Value)} (r : KT H kvs xs) (ht : ∀ b ys, H b = some (.tup ys) → H' b = some (.tup ys)) : KT H' kvs xs :=
  Paired.mapP r fun _ _ z => ⟨z.1, ht _ _ z.2.1, z.2.2⟩
section
variable {P : Program} {w : World} {H : Hp} {h : Heap} {a : Addr}
end
def DGet (H : Hp) (a : Addr) (y : V) (r : Option V) : Prop :=
  (∃ kvs k, Rd H a (.dK kvs) ∧ y = kV k ∧ r = valV kvs k) ∨ ∃ kvs k b, Rd H a (.dT kvs) ∧ y = .ref b ∧ H b = some (.tup (k.map kV)) ∧ r = valV kvs k
def DPut (H : Hp) (a : Addr) (y v : V) (H' : Hp) : Prop :=
  (∃ kvs k, H a = some (.dK kvs) ∧ y = kV k ∧ kvs.length < sizeLine ∧ H' = upd H a (.dK (putK kvs k v))) ∨
  ∃ kvs k b, H a = some (.dT kvs) ∧ y = .ref b ∧ H b = some (.tup (k.map kV)) ∧ kvs.length < sizeLine ∧ H' = upd H a (.dT (putK kvs k v))
theorem DGet.k {H : Hp} {a : Addr} {kvs : List (Key × V)} {k : Key} (e : H a = some (.dK kvs)) : DGet H a (kV k) (valV kvs k) := .inl ⟨kvs, k, .inl e, rfl, rfl⟩
theorem DGet.t {H : Hp} {a b : Addr} {kvs : List (List Key × V)} {k : List Key} (e : H a = some (.dT kvs)) (eb : H b = some (.tup (k.map kV))) : DGet H a (.ref b) (valV kvs k) := .inr ⟨kvs, k, b, .inl e, rfl, eb, rfl⟩
theorem DPut.k {H : Hp} {a : Addr} {kvs : List (Key × V)} {k : Key} {v : V} (e : H a = some (.dK kvs)) (hl : kvs.length < sizeLine) : DPut H a (kV k) v (upd H a (.dK (putK kvs k v))) := .inl ⟨kvs, k, e, rfl, hl, rfl⟩
theorem DPut.t {H : Hp} {a b : Addr} {kvs : List (List Key × V)} {k : List Key} {v : V} (e : H a = some (.dT kvs)) (eb : H b = some (.tup (k.map kV))) (hl : kvs.length < sizeLine) :
    DPut H a (.ref b) v (upd H a (.dT (putK kvs k v))) := .inr ⟨kvs, k, b, e, rfl, eb, hl, rfl⟩
section
variable {X : Cx} {pins : List (Addr × Obj)} {σ : St} {H : Hp} {s : Shared} {a : Addr} {y v : V} {u r : Value} {o : Option V} {A : Around} {E : Value → Shared → Prop}
end
section
variable {X : Cx} {pins : List (Addr × Obj)} {σ : St} {H : Hp} {s : Shared} {a : Addr} {kvs : List (Key × V)} {k : Key} {u : Value} {A : Around} {E : Value → Shared → Prop}
end
section
variable {X : Cx} {o i e value : Expr} {pos pos' tpos : Pos} {td ty tv : TE}
end
section
variable {X : Cx} {pos : Pos}
end
section
variable {X : Cx} {pins : List (Addr × Obj)} {σ : St} {H : Hp} {s : Shared} {a : Addr} {y d : V} {u r : Value} {o : Option V} {A : Around} {E : Value → Shared → Prop}
end
section
variable {X : Cx} {o e f : Expr} {apos cpos : Pos} {td ty tx : TE}
end
section
variable {X : Cx} {pins : List (Addr × Obj)} {σ : St} {H : Hp} {s : Shared} {a : Addr} {kvs : List (Key × V)} {A : Around} {E : Value → Shared → Prop}
end
section
variable {X : Cx} {pins : List (Addr × Obj)} {σ : St} {H : Hp} {s : Shared} {a : Addr} {y : V} {u : Value} {A : Around} {E : Value → Shared → Prop}
end
end L2
namespace L2
open PySem PySem.Spec PyProof.Rows
section
variable {prog : Program} {w : World} {A : Around} {E : Value → Shared → Prop}
end
section
variable {X : Cx}
end
end L2
namespace L2
open PySem PySem.Spec PyProof.Rows
section
variable {X : Cx} {pins : List (Addr × Obj)} {σ : St} {H : Hp} {s : Shared} {h' : Heap}
theorem Inv.turnedL {t' : Nat} {ch : List Addr} (I : Inv X pins σ H s) (k : ∀ b o, b ∉ ch → s.heap.get? b = some o → h'.get? b = some o) (hf : ∀ b ∈ ch, FpOk X pins H b) : Inv X pins σ H { s with heap := h', toks := t' } := by
  have nit : ∀ b u, H b = some u → b ∉ ch := fun b u e z => by
    have q := (hf b z).1
    rw [q] at e; cases e
  refine I.step (g' := s.gens) (d' := s.drawn) (ch := ch) (fun b hb => ⟨(hf b hb).2.2.2.1, (hf b hb).2.1, (hf b hb).2.2.2.2.1, (hf b hb).2.2.2.2.2⟩) (fun b o _ _ hc e _ => k b o hc e) (fun b o _ _ hc e _ => ⟨o.slots, k b o hc e⟩)
    (fun _ _ _ _ n => n) (fun b o hc e => ⟨o, k b o hc e⟩) (fun _ _ e => e) (fun _ _ _ e => e) (fun b ps e => ⟨#[], by rw [e]; simp⟩) (fun m hm => ?_) (fun b u e => ?_) I.bare
  · obtain ⟨o, es, ep, ho, r⟩ := hm
    exact ⟨o, es, ep, k _ o (fun z => (hf _ z).2.1 rfl) ho, r⟩
  · refine (I.hok b u e).stay (fun c v hc q => k c v ?_ q) (fun _ q => q) fun _ _ q => q
    rcases hc with z | z
    · rw [z]; exact nit b u e
    · exact nit c _ z
theorem Inv.turnedNew {t' : Nat} {ch : List Addr} {T : Addr} {ob : HO} (I : Inv X pins σ H s) (k : ∀ b o, b ∉ ch → s.heap.get? b = some o → h'.get? b = some o) (hf : ∀ b ∈ ch, FpOk X pins H b) (hT : s.heap.objs.size ≤ T)
    (new : ObjOk X.prog X.w (upd H T ob) h' T ob) : Inv X pins σ (upd H T ob) { s with heap := h', toks := t' } := by
  have hn : H T = none := I.hok.fresh hT
  have nit : ∀ b u, H b = some u → b ∉ ch := fun b u e z => by
    have q := (hf b z).1
    rw [q] at e; cases e
  refine I.step (g' := s.gens) (d' := s.drawn) (ch := ch) (fun b hb => ⟨(hf b hb).2.2.2.1, (hf b hb).2.1, (hf b hb).2.2.2.2.1, (hf b hb).2.2.2.2.2⟩) (fun b o _ _ hc e _ => k b o hc e) (fun b o _ _ hc e _ => ⟨o.slots, k b o hc e⟩)
    (fun b o _ e n => ?_) (fun b o hc e => ⟨o, k b o hc e⟩) (fun b xs e => ?_) (fun b o u e => ?_) (fun b ps e => ⟨#[], ?_⟩) (fun m hm => ?_) (fun b u e => ?_) I.bare
  · rw [upd_ne (Nat.ne_of_lt (Nat.lt_of_lt_of_le (Heap.lt_size e) hT))]; exact n
  · rw [upd_ne (ne_of_none e hn)]; exact e
  · rw [upd_ne (ne_of_none e hn)]; exact e
  · rw [upd_ne (ne_of_none e hn), e]; simp
  · obtain ⟨o, es, ep, ho, r⟩ := hm
    exact ⟨o, es, ep, k _ o (fun z => (hf _ z).2.1 rfl) ho, r⟩
  · by_cases hb : b = T
    · subst hb
      rw [upd_same] at e
      cases e
      exact new
    · rw [upd_ne hb] at e
      refine (I.hok b u e).stay (fun c v hc q => k c v ?_ q) (fun c q => by rw [upd_ne (ne_of_none q hn)]; exact q) fun c xs q => by rw [upd_ne (ne_of_none q hn)]; exact q
      rcases hc with z | z
      · rw [z]; exact nit b u e
      · exact nit c _ z
end
section
variable {X : Cx}
end
section
variable {X : Cx} {tg : Expr}
end
section
variable {X : Cx} {tg : Expr}
end
section
variable {prog : Program} {w : World} {A : Around} {E : Value → Shared → Prop} {s : Shared}
end
section
variable {X : Cx} {pins : List (Addr × Obj)} {σ : St} {H : Hp} {s : Shared} {d : Addr} {o : Obj}
end
section
variable {P : Program} {w : World} {K : PySem.W.Frag} {tg : Expr} {d : Addr} {o : Obj} {es : Array DictEntry} {ep : Nat}
end
section
variable {X : Cx} {tg e : Expr} {td : TE} {apos cpos : Pos}
end
theorem boot_zip5 : bootBuiltins "zip" = some (.type "zip") := by decide +kernel
def Itz (K : PySem.W.Frag) (a b : Addr) : It :=
  ⟨fun i H => ∃ (xs ys : List V) (x y : V), SqL K H a xs ∧ SqL K H b ys ∧ xs[i]? = some x ∧ ys[i]? = some y,
    fun i H v H' => ∃ T x y, v = .ref T ∧ H T = none ∧ H' = upd H T (.tup [x, y]) ∧ (∀ xs, SqL K H a xs → xs[i]? = some x) ∧ ∀ ys, SqL K H b ys → ys[i]? = some y,
    fun i H => ∃ xs ys : List V, SqL K H a xs ∧ SqL K H b ys ∧ (xs.length ≤ i ∨ ys.length ≤ i)⟩
theorem turn_zip {P : Program} {w : World} {K : PySem.W.Frag} {elts : List Expr} {kk : Nat} {tpos : Pos} {a b z TI TO i1 i2 : Addr} (D : ZipApart z TI TO i1 i2 a b) :
    Turn P w K (.Tuple elts kk tpos) (Itz K a b) [z, TI, TO, i1, i2] z (fun i h => IsZip h z TI TO .none ∧ IsPair h TI (.ref i1) (.ref i2) ∧ (∃ x y, IsPair h TO x y) ∧ h.IsListIter i1 a i ∧ h.IsListIter i2 b i) where
  mem := by simp
  obj := fun i h st c hc => by
    obtain ⟨hz, hTI, ⟨x, y, hTO⟩, ⟨o1, e1, _, d1⟩, ⟨o2, e2, _, d2⟩⟩ := st
    have e' : c = z ∨ c = TI ∨ c = TO ∨ c = i1 ∨ c = i2 := by simpa using hc
    rcases e' with q | q | q | q | q
    · rw [q]; exact ⟨_, hz, fun v q => nomatch q⟩
    · rw [q]; exact ⟨_, hTI, fun v q => nomatch q⟩
    · rw [q]; exact ⟨_, hTO, fun v q => nomatch q⟩
    · rw [q]; exact ⟨o1, e1, fun v q => by rw [d1] at q; cases q⟩
    · rw [q]; exact ⟨o2, e2, fun v q => by rw [d2] at q; cases q⟩
  keep := fun i h h' st k => by
    obtain ⟨hz, hTI, ⟨x, y, hTO⟩, h1, h2⟩ := st
    exact ⟨k z (by simp) _ hz, k TI (by simp) _ hTI, ⟨x, y, k TO (by simp) _ hTO⟩, h1.at fun o q => k i1 (by simp) o q, h2.at fun o q => k i2 (by simp) o q⟩
  item := by
    intro X hP hw hK hc i pins s σ H E I hf st hg
    subst hP hw hK
    obtain ⟨hz, hTI, ⟨x0, y0, hTO⟩, h1, h2⟩ := st
    obtain ⟨xs, ys, x, y, hqx, hqy, hx, hy⟩ := hg
    obtain ⟨its, rv, p, _⟩ := I.list hqx
    obtain ⟨its2, rv2, p2, _⟩ := I.list hqy
    obtain ⟨u, hu, ru⟩ := rv.get hx
    obtain ⟨u2, hu2, ru2⟩ := rv2.get hy
    have hzl : z < s.heap.objs.size := Heap.lt_size hz
    refine wpAny_pyNext_zip_item D hz hTI hTO h1 h2 p.isList p2.isList (x := u) (y := u2) (by simpa using hu) (by simpa using hu2) fun h' z' TO' h1' h2' hT hsz hk => ?_
    refine ⟨_, rfl, wpAny_letOwnedTupleGo_zip (s := { s with heap := h' }) z' fun h'' z'' sb => ?_⟩
    have hT2 : h''.get? s.heap.objs.size = some { cls := .type "tuple", data := .seq #[u, u2] } := (sb.2 _ (Nat.ne_of_gt hzl)).trans hT
    have new : ObjOk X.prog X.w (upd H s.heap.objs.size (.tup [x, y])) h'' s.heap.objs.size (.tup [x, y]) :=
      ⟨by show 2 ≤ sizeLine; decide, [u, u2], .cons ru (.cons ru2 .nil), ⟨_, hT2, rfl, rfl, _, rfl⟩⟩
    have I1 : Inv X pins σ (upd H s.heap.objs.size (.tup [x, y])) { s with heap := h'' } :=
      I.turnedNew (t' := s.toks) (ch := [z, TI, TO, i1, i2]) (fun c o hb q => (sb.2 c (fun q' => hb (by simp [q']))).trans (hk c o (fun q' => hb (by simp [q'])) (fun q' => hb (by simp [q'])) (fun q' => hb (by simp [q'])) (fun q' => hb (by simp [q'])) q)) hf (Nat.le_refl _) new
    refine ⟨.ref s.heap.objs.size, _, I1, rfl, ⟨_, x, y, rfl, I.hok.fresh (Nat.le_refl _), rfl, fun l hl => by rw [I.list_inj hl hqx]; exact hx, fun l hl => by rw [I.list_inj hl hqy]; exact hy⟩, ⟨z'', ?_, ⟨u, u2, ?_⟩, ?_, ?_⟩, fun c hcm => ?_⟩
    · exact (sb.2 _ D.TIz).trans (hk _ _ D.TIz D.TITO D.TIi1 D.TIi2 hTI)
    · exact (sb.2 _ D.TOz).trans TO'
    · exact h1'.at fun o q => (sb.2 _ D.i1z).trans q
    · exact h2'.at fun o q => (sb.2 _ D.i2z).trans q
    · have hlt : c < s.heap.objs.size := by
        have e' : c = z ∨ c = TI ∨ c = TO ∨ c = i1 ∨ c = i2 := by simpa using hcm
        rcases e' with q | q | q | q | q
        · rw [q]; exact hzl
        · rw [q]; exact Heap.lt_size hTI
        · rw [q]; exact Heap.lt_size hTO
        · rw [q]; obtain ⟨_, e1, _⟩ := h1; exact Heap.lt_size e1
        · rw [q]; obtain ⟨_, e2, _⟩ := h2; exact Heap.lt_size e2
      rw [upd_ne (Nat.ne_of_lt hlt)]
      exact (hf c hcm).1
  done := by
    intro X hP hw hK hc i pins s σ H E I hf st hg
    subst hP hw hK
    obtain ⟨hz, hTI, ⟨x0, y0, hTO⟩, h1, h2⟩ := st
    obtain ⟨xs, ys, hqx, hqy, hend⟩ := hg
    obtain ⟨its, rv, p, _⟩ := I.list hqx
    obtain ⟨its2, rv2, p2, _⟩ := I.list hqy
    have l1 := rv.length
    have l2 := rv2.length
    have he : its.toArray[i]? = none ∨ its2.toArray[i]? = none := by
      rcases hend with q | q
      · exact .inl (by simp; omega)
      · exact .inr (by simp; omega)
    exact wpAny_pyNext_zip_end (I.ok.hd hc) D hz hTI hTO h1 h2 p.isList p2.isList he fun h' hk => ⟨rfl, I.turnedL (t' := s.toks) (ch := [z, TI, TO, i1, i2]) (fun c o hb q =>
      hk c o (fun q' => hb (by simp [q'])) (fun q' => hb (by simp [q'])) (fun q' => hb (by simp [q'])) (fun q' => hb (by simp [q'])) q) hf⟩
  self := fun A i s Q E st h => wpAny_pyIter_zip st.1 h
def iZip (K : PySem.W.Frag) (ta : TA) : TI := fun σ H R => ta σ H fun vs H1 => ∃ a b xs ys, vs = [.ref a, .ref b] ∧ SqL K H1 a xs ∧ SqL K H1 b ys ∧ R (Itz K a b) H1
theorem pi_zip {X : Cx} {e e2 : Expr} {ta : TA} {p pos tpos : Pos} {elts : List Expr} {kk : Nat} (hg : Gl X "zip") (hm : X.mg "zip" = none) (ha : PA X [e, e2] ta)
    (hs : starEach [e, e2] X.env = (false, eval e X.env) :: starEach [e2] X.env := by rfl) (hpl : (backTo pos (starEach [e2] X.env)).any (·.1) = false := by rfl) :
    PI X (.Tuple elts kk tpos) (.Call (.Name "zip" p) [e, e2] [] pos) (iZip X.K ta) := by
  intro pins s σ H R I h
  refine Call_ (ld_blt I hg hm boot_zip5 (PyProof.Rows.callWith_type1 (thn (ha pos pins s σ H _ I h) fun us s1 ⟨vs, H1, I1, r1, q1⟩ => ?_) hs hpl))
  obtain ⟨a, b, xs, ys, ex, hqx, hqy, q⟩ := q1
  subst ex
  cases r1 with
  | cons r rr =>
    cases rr with
    | cons r' rr =>
      cases rr
      cases r
      cases r'
      obtain ⟨its, rv, p1, _⟩ := I1.list hqx
      obtain ⟨its2, rv2, p2, _⟩ := I1.list hqy
      have la : a < s1.heap.objs.size := p1.lt
      have lb : b < s1.heap.objs.size := p2.lt
      refine call_zip_2 p1.isList p2.isList fun h' hz hTI hTO h1 h2 hsz hk => wpAny_pyIter_zip hz ?_
      have I2 : Inv X pins σ H1 { s1 with heap := h' } := I1.kept (t' := s1.toks) hk
      refine ⟨s1.heap.objs.size + 4, [s1.heap.objs.size + 4, s1.heap.objs.size + 2, s1.heap.objs.size + 3, s1.heap.objs.size, s1.heap.objs.size + 1], _, _, H1, rfl, I2, turn_zip (PySem.W.ktu_apart s1.heap.objs.size a b la lb), ⟨hz, hTI, ⟨_, _, hTO⟩, h1, h2⟩, fun c hcm => ?_, q⟩
      have e' : c = s1.heap.objs.size + 4 ∨ c = s1.heap.objs.size + 2 ∨ c = s1.heap.objs.size + 3 ∨ c = s1.heap.objs.size ∨ c = s1.heap.objs.size + 1 := by simpa using hcm
      have hle : s1.heap.objs.size ≤ c := by
        rcases e' with z | z | z | z | z
        · rw [z]; exact Nat.le_add_right _ _
        · rw [z]; exact Nat.le_add_right _ _
        · rw [z]; exact Nat.le_add_right _ _
        · rw [z]; exact Nat.le_refl _
        · rw [z]; exact Nat.le_add_right _ _
      exact I1.fpOk hle (I1.hok.fresh hle)
end L2
section
namespace Bits
open PySem PyProof.Rows
end Bits
end
section
namespace TL
open PySem PySem.Builtin PySem.Builtin.Str PySem.StrLaws
abbrev tl (x : Str) : List Nat := x.cps.toList
def pre (S l : List Nat) : Bool := l.take S.length == S
def par (S : List Nat) : List Nat → List Nat → Option (List Nat × List Nat)
  | _, [] => none
  | acc, c :: r => if pre S (c :: r) = true then some (acc, (c :: r).drop S.length) else par S (acc ++ [c]) r
end TL
end
namespace L2
open PySem PySem.Spec PyProof.Rows
section
variable {X : Cx} {pins : List (Addr × Obj)} {σ : St} {H : Hp} {s : Shared} {Q : VK}
end
section
variable {X : Cx}
end
section
variable {X : Cx} {o e : Expr} {to te : TE}
end
end L2
namespace L2
open PySem PySem.Spec PyProof.Rows
section
variable {X : Cx}
end
end L2
namespace Att
open PySem PySem.W PySem.Calls PyProof.Rows
theorem ints_of_wellAll {P : Params} {h : Heap} : ∀ (ns : List Int) (vs : List Value), WellAll P h vs (ns.map WData.int) → IntsAre vs ns := by
  intro ns
  induction ns with
  | nil =>
    intro vs w
    rw [List.map_nil] at w
    cases w
    exact .nil
  | cons n ns ih =>
    intro vs w
    rw [List.map_cons] at w
    cases w with
    | cons a b =>
      cases a
      exact .cons _ _ (ih _ b)
theorem script_of {l : OpenLaw} {n : Nat} (hn : l.most = some n) {P : Params} {h : Heap} {args : List WData} {vals : List Value}
    (hpre : l.row.toRowW.claim.pre args = true) (hwl : WellAll P h vals args) :
    ∃ a vs ns, vals = [Value.ref a] ∧ args = [WData.list (ns.map WData.int)] ∧ h.get? a = some { cls := .type "list", data := .seq vs.toArray } ∧ IntsAre vs ns ∧ ns.length ≤ n := by
  have hsh : WShape.hasAll [] args [.list .int] = true := (pre_splitW hpre).1
  have hc : l.pre.holds [] { args := args } = true := (pre_splitW hpre).2
  obtain ⟨d, r, rfl, h1, h2⟩ := hasAllW_cons hsh
  obtain rfl := hasAllW_nil h2
  obtain ⟨xs, rfl, h3⟩ := hasW_list h1
  obtain ⟨ns, rfl⟩ := items_int h3
  have hlen : ns.length ≤ n := by
    unfold OpenLaw.pre at hc
    have h4 : (WTm.not (.lt (.lit (.int (n : Int))) (.len (.arg 0)))).holds [] { args := [.list (ns.map .int)] } = true := by
      have h4 := (holds_andW hc).1
      rw [hn] at h4
      exact h4
    have h5 := condW_of h4 (w_not (w_lt w_lit (w_len_list (w_arg rfl))))
    rw [List.length_map] at h5
    refine Nat.le_of_not_lt fun q => ?_
    have q' : (n : Int) < ((ns.length : Nat) : Int) := by omega
    first
      | (rw [decide_eq_true q'] at h5; exact absurd h5 (by decide))
      | (simp at h5; omega)
  cases hwl with
  | cons w1 w2 =>
    cases w2
    cases w1 with
    | list ho hall => exact ⟨_, _, ns, rfl, rfl, ho, ints_of_wellAll ns _ hall, hlen⟩
theorem post_true (l : OpenLaw) (args : List WData) : l.row.toRowW.claim.post args (.bool true) args = true :=
  postW_of (r := l.row.toRowW) (X := (true == true))
    (show WShape.has [] (.bool true) .bool = true by first | rfl | decide | simp [WShape.has, WShape.arms, WShape.armsAll])
    (show (WTm.eq .res (.lit (.bool true))).value [] { args := args, res := some (.bool true), after := args } = some (.bool (true == true)) from w_eq_bool (w_res rfl) w_lit) rfl
theorem attach_call {l : OpenLaw} {n : Nat} {q : Program} {loose : List Str} {XP : (Str → Option Value) → Heap → Prop} {YP : World → Heap → Prop} {d : DefRec}
    (hn : l.most = some n) (hdf : d.params.defaults = [])
    (call : ∀ (w : World) (s₀ s₁ : Shared) (mg mb : Str → Option Value) (fa : Addr) (o : Obj) (pm cd doc : Value) (a : Addr) (vs : List Value) (ns : List Int),
      Ground q loose [] XP w s₀ mg mb s₁.heap → YP w s₁.heap →
      s₁.heap.get? fa = some o → o.data = .func (docDef d.name d.params d.body d.scope pm cd doc) → s₁.heap.CodeRec cd d.name → mg d.name = some (.ref fa) →
      s₁.heap.get? a = some { cls := .type "list", data := .seq vs.toArray } → IntsAre vs ns → ns.length ≤ n → s₁.gens = #[] →
      codeAny (model l.prog w) callerA (.call (.ref fa) ⟨[.ref a], []⟩) (fun r s' => r = .ok (.ret (.bool true)) ∧ OldK s₁.heap s'.heap ∧ s'.os = s₁.os ∧ AllBare s'.gens) s₁) :
    WalkO q loose XP YP l.row.toRowW d [] (fun f vs => PySem.call f vs) := by
  intro w s₀ s₁ mg mb G Y fa o pm cd doc dV kV ho hd hcd hD hmg hg args vals as hpre hlay hrd hwl hlo
  obtain rfl : dV = .none := Dflts.none hD hdf
  obtain rfl : kV = .none := Dflts.noKw hD
  obtain ⟨a, vs, ns, rfl, rfl, hobj, hints, hlen⟩ := script_of hn hpre hwl
  refine enter_call (codeAny_mono (call w s₀ s₁ mg mb fa o pm cd doc a vs ns G Y ho (fd_plain hd) hcd hmg hobj hints hlen hg) fun r s' hq => ?_)
  obtain ⟨rfl, h2, h3, h4⟩ := hq
  exact ⟨.inl ⟨.bool true, .bool true, [], rfl, fun _ => rfl, .bool true, post_true l _, fun _ => ⟨List.Pairwise.nil, fun _ hm => (nomatch hm)⟩⟩, h2, h3, h4⟩
section
variable {prog : Program} {w : World} {A : Around} {E : Value → Shared → Prop} {s : Shared} {K : Frag}
end
end Att
namespace L2
open PySem PySem.Spec PyProof.Rows
theorem vals_ints : ∀ {vs : List Value} {ns : List Int}, IntsAre vs ns → Vals (ns.map V.int) vs
  | _, _, .nil => .nil
  | _, _, .cons n t h => .cons ⟨t, rfl⟩ (vals_ints h)
end L2
namespace L2
open PySem PySem.Spec PyProof.Rows
end L2
namespace L2
open PySem PySem.Spec PyProof.Rows
def defArgs (s : Stmt) : Arguments := match s with
  | .FunctionDef _ a _ _ _ _ _ _ _ _ => a
  | _ => { posonlyargs := [], args := [], vararg := none, kwonlyargs := [], kw_defaults := [], kwarg := none, defaults := [] }
def defBody (s : Stmt) : List Stmt := match s with
  | .FunctionDef _ _ b _ _ _ _ _ _ _ => b
  | _ => []
def defScope (s : Stmt) : Scope := match s with
  | .FunctionDef _ _ _ _ _ _ sc _ _ _ => sc
  | _ => { kind := .function, names := [], isGenerator := false, isCoroutine := false }
abbrev CX0 : CXT := fun _ _ _ _ _ _ => False
abbrev E0 : XK := fun _ _ _ => False
theorem pass0 {X : Cx} : Passes CX0 X E0 := fun _ _ _ _ _ _ _ h => h.elim
structure Fun (K : PySem.W.Frag) (x qual : Str) (st : Stmt) (f : Addr) (fd : FuncData) : Prop where
  ex : ∃ (oc : Value) (od : Option Addr) (kV doc pm : Value) (an : Option Addr) (cdv ct : Value) (osl : Array (Option Value)),
    fd = PySem.W.fnOf x qual (defArgs st) (defBody st) (defScope st) .none kV doc pm an cdv ct ∧ K.lookup f = some ⟨oc, od, .func fd, osl⟩ ∧ PySem.W.codeIn K cdv qual = true
  kp : PySem.W.keepIn K (.ref f) = true
section
variable {P : Program} {w : World} {K : PySem.W.Frag} {mg : Str → Option Value} {base : Heap}
theorem Fun.ok {x qual : Str} {st : Stmt} {f : Addr} {fd : FuncData} {N ps : List Str} {k : Nat} {sp : Sp} (F : Fun K x qual st f fd) (S : FnScope N ps (defScope st)) (len : ∀ vs H Q E, sp vs H Q E → vs.length = ps.length)
    (hbody : ∀ (cdv : Value) (A : Around) (outer : List Env) (s : Shared) (H : Hp) (vs : List V) (Q : VK) (E : XK), Room k (A.deeper (envOfC qual (defScope st) s.heap.objs.size f cdv)) → sp vs H Q E →
      ∃ t, PSs (cxOf CX0 P w K mg base N qual (defScope st) f cdv A outer s H E).nox (defBody st) t ∧ t { nx := fun _ H' => Q .non H', rt := Q } (start N vs) H) : FnOk P w K mg base CX0 (k + 1) f fd ps sp := by
  obtain ⟨oc, od, kV, doc, pm, an, cdv, ct, osl, rfl, lk, hcd⟩ := F.ex
  refine fn_of lk hcd S len fun A outer s H vs Q E hr hsp => ?_
  obtain ⟨t, h, q⟩ := hbody cdv A outer s H vs Q E hr hsp
  exact ⟨t, h.nox, q⟩
theorem Fun.binds {x qual : Str} {st : Stmt} {f : Addr} {fd : FuncData} {ps : List Str} (F : Fun K x qual st f fd)
    (h : ∀ (kV doc pm : Value) (an : Option Addr) (cdv ct : Value) (us : List Value), us.length = ps.length → bindArgs (PySem.W.fnOf x qual (defArgs st) (defBody st) (defScope st) .none kV doc pm an cdv ct) ⟨us, []⟩ = pure (ps.zip us)) : Binds K fd ps [] := by
  obtain ⟨oc, od, kV, doc, pm, an, cdv, ct, osl, rfl, lk, hcd⟩ := F.ex
  exact .all (h kV doc pm an cdv ct)
theorem fun_mk {x qual : Str} {st : Stmt} {f : Addr} {oc : Value} {od an : Option Addr} {osl : Array (Option Value)} {kV doc pm cdv ct : Value} (l : K.lookup f = some ⟨oc, od, .func (PySem.W.fnOf x qual (defArgs st) (defBody st) (defScope st) .none kV doc pm an cdv ct), osl⟩)
    (c : PySem.W.codeIn K cdv qual = true) (k : PySem.W.keepIn K (.ref f) = true) : Fun K x qual st f (PySem.W.fnOf x qual (defArgs st) (defBody st) (defScope st) .none kV doc pm an cdv ct) := ⟨⟨oc, od, kV, doc, pm, an, cdv, ct, osl, rfl, l, c⟩, k⟩
end
theorem small1000 {n : Nat} (h : n ≤ 1000) : n < sizeLine := Nat.lt_of_le_of_lt h (by decide)
section
variable {X : Cx}
theorem pv (i : Nat) {x : Str} {pos : Pos} (hN : X.N[i]? = some x := by rfl) (hv : Vis X.env.scope x := by first | exact Or.inl rfl | exact Or.inr (Or.inl rfl) | exact Or.inr (Or.inr rfl)) (hd : (x == ("__debug__" : Str)) = false := by decide)
    (hcd : (x == ("__classdict__" : Str)) = false := by decide) : PE X (.Name x pos) (tVar i) := pe_var hN hv hd hcd
end
theorem ite2 {c A B : Prop} [Decidable c] (h1 : c → A) (h2 : ¬ c → B) : if c then A else B := by
  by_cases h : c
  · rw [if_pos h]
    exact h1 h
  · rw [if_neg h]
    exact h2 h
def Same (H H' : Hp) : Prop := ∀ b o, H b = some o → H' b = some o
theorem Same.refl (H : Hp) : Same H H := fun _ _ h => h
theorem Same.trans {H H1 H2 : Hp} (a : Same H H1) (b : Same H1 H2) : Same H H2 := fun c o h => b c o (a c o h)
theorem Same.free {H H' : Hp} (e : Same H H') {l : Addr} (h : H' l = Option.none) : H l = Option.none := by
  cases q : H l with
  | none => rfl
  | some o =>
    rw [e l o q] at h
    cases h
theorem Same.seq {K : PySem.W.Frag} {H H' : Hp} {a : Addr} {xs : List V} (e : Same H H') (h : SqL K H a xs) : SqL K H' a xs := by
  rcases h with (h | ⟨o, h⟩) | h
  · exact .inl (.inl (e _ _ h))
  · exact .inl (.inr ⟨o, e _ _ h⟩)
  · exact .inr h
section
variable {κ : Type} [DecidableEq κ]
end
theorem sum_set : ∀ {l : List Int} {j : Nat} {z y : Int}, l[j]? = some z → (l.set j y).sum = l.sum - z + y
  | [], j, z, y, h => by simp at h
  | a :: r, 0, z, y, h => by
    have e : a = z := Option.some.inj h
    subst e
    show (y :: r).sum = (a :: r).sum - a + y
    rw [List.sum_cons, List.sum_cons]
    omega
  | a :: r, j + 1, z, y, h => by
    have ih := sum_set (l := r) (j := j) (z := z) (y := y) h
    show (a :: r.set j y).sum = (a :: r).sum - z + y
    rw [List.sum_cons, List.sum_cons, ih]
    omega
end L2
set_option Elab.async false
set_option linter.all false
set_option maxRecDepth 100000
namespace L2
open PySem PySem.Spec PyProof.Rows
inductive Kd where
  | int | bool | non | str | tup | lst
  deriving DecidableEq
def Kd.nm : Kd → String
  | .int => "int" | .bool => "bool" | .non => "NoneType" | .str => "str" | .tup => "tuple" | .lst => "list"
def KindV (K : PySem.W.Frag) (H : Hp) : V → Kd → Prop
  | .int _, k => k = .int
  | .bl _, k => k = .bool
  | .non, k => k = .non
  | .str _, k => k = .str
  | .ref p, k => (k = .tup ∧ ∃ xs, SqT K H p xs) ∨ (k = .lst ∧ ∃ xs, SqL K H p xs)
  | _, _ => False
section
variable {X : Cx}
def rSet0 : List V → Hp → VK → Prop := fun vs H Q => vs = [] ∧ ∀ p, H p = none → Q (.ref p) (upd H p (.set (fun _ => false) 0))
theorem call_set0 : CallR X (.type "set") rSet0 := by
  intro pins s σ H xs us Q I r h
  obtain ⟨rfl, q⟩ := h
  rw [r.zero]
  refine call_set_0 fun led => ⟨.ref s.heap.objs.size, _, I.laid (t' := s.toks) (o := .set (fun _ => false) 0) (fun b ob e => Heap.get?_push_of_some _ e) (Nat.le_refl _) ?_, rfl, q _ (I.hok.fresh (Nat.le_refl _))⟩
  exact (Obj.IntSetOf.kind (intSetOf_fresh led) X.prog X.w).setOf (Heap.get?_push_size _ rfl) (by decide)
def rSetAdd : V → List V → Hp → VK → Prop := fun x vs H Q => ∃ p i S n, x = .ref p ∧ vs = [.int i] ∧ H p = some (.set S n) ∧ n + 1 < 4096 ∧
  Q .non (upd H p (.set (fun k => S k || decide (k = i)) (if S i then n else n + 1)))
theorem mt_setadd : MtM X "set.add" rSetAdd := by
  intro pins s σ H x vs v us Q I rx rv h
  obtain ⟨p, i, S, n, rfl, rfl, hp, hn, q⟩ := h
  cases rx
  obtain ⟨u, rfl, t, rfl⟩ := rv.one
  have hS : s.heap.SetOf (intKind X.prog X.w) p S n := I.hok p _ hp
  refine call_set_add (k := i) (intKind_is _ _ _ _) rfl hS hn fun h' sb hS' => ⟨.non, _, I.write (x := p) (e := p) (by rw [hp]; exact trivial) (.inl rfl) (fun b ob hb e => (sb.2 b hb).trans e) ?_ ?_, rfl, q⟩
  · obtain ⟨o, _, _, _, e, _⟩ := hS'; exact ⟨o, e⟩
  · exact hS'
theorem insert_list (its : List Value) (k : Nat) (y : Value) : (its.toArray.extract 0 k).push y ++ its.toArray.extract k = (its.take k ++ y :: its.drop k).toArray := by
  apply Array.ext'
  simp
  rw [List.take_of_length_le (by rw [List.length_drop]; exact Nat.le_refl _)]
def rInsert : V → List V → Hp → VK → Prop := fun x vs H Q => ∃ l xs i y, x = .ref l ∧ vs = [.int i, y] ∧ H l = some (.lst xs) ∧ 0 ≤ i ∧ i ≤ xs.length ∧ xs.length < sizeLine ∧
  Q .non (upd H l (.lst (xs.take i.toNat ++ y :: xs.drop i.toNat)))
theorem mt_insert : MtM X "list.insert" rInsert := by
  intro pins s σ H x vs v us Q I rx rv h
  obtain ⟨l, xs, i, y, rfl, rfl, hH, h0, h1, hz, q⟩ := h
  cases rx
  obtain ⟨u, w', rfl, ⟨t, rfl⟩, ru⟩ := rv.two
  obtain ⟨z, its, n, r, hl, e⟩ := I.lstM hH
  have h63 := line63
  have hfit : ¬ (!Builtin.List.listFitsIndex i) = true := by
    rw [fitsIndex_both (by omega) (by omega)]
    exact Bool.false_ne_true
  refine call_meets F.slot_list_insert ⟨_, e, rfl⟩ F.entry_list_insert (F.args_list_insert_3 _ _ _) (AutoSeq1.list_insert_list_int_val_1 l its.toArray n i t w' hfit (by rw [List.size_toArray]; omega)) ⟨e, ?_⟩
  refine ⟨.non, _, I.lset (its' := its.take i.toNat ++ w' :: its.drop i.toNat) hH e ?_ (Vals.append (r.take _) (.cons ru (r.drop _))) ?_, rfl, q⟩
  · have hk : (if i < 0 then (i + (its.toArray.size : Int)).toNat else min i.toNat its.toArray.size) = i.toNat := by
      rw [if_neg (by omega), List.size_toArray]; omega
    show (its.toArray.extract 0 (if i < 0 then (i + (its.toArray.size : Int)).toNat else min i.toNat its.toArray.size)).push w' ++ its.toArray.extract (if i < 0 then (i + (its.toArray.size : Int)).toNat else min i.toNat its.toArray.size) = _
    rw [hk]
    exact insert_list its i.toNat w'
  · rw [List.length_append, List.length_cons, List.length_take, List.length_drop]
    omega
def rRange1 : List V → Hp → VK → Prop := fun vs H Q => ∃ j : Int, vs = [.int j] ∧ ∀ p, H p = none → Q (.ref p) (upd H p (.rng 0 j))
theorem call_range1 : CallR X (.type "range") rRange1 := by
  intro pins s σ H xs us Q I r h
  obtain ⟨j, rfl, q⟩ := h
  obtain ⟨u, rfl, t, rfl⟩ := r.one
  refine call_range_1 ⟨.ref s.heap.objs.size, _, I.laid (o := .rng 0 j) (fun b ob e => Heap.get?_push_of_some _ e) (Nat.le_refl _) ?_, rfl, q _ (I.hok.fresh (Nat.le_refl _))⟩
  exact ⟨_, _, _, Heap.get?_push_size _ rfl⟩
def intsTo (lo : Int) (n : Nat) : List V := (List.range n).map fun i => V.int (lo + (i : Nat))
theorem intsTo_length (lo : Int) (n : Nat) : (intsTo lo n).length = n := by simp [intsTo]
theorem paired_of_get {α β : Type} {F : α → β → Prop} : ∀ {l₁ : List α} {l₂ : List β}, l₁.length = l₂.length → (∀ (i : Nat) a b, l₁[i]? = some a → l₂[i]? = some b → F a b) → Paired F l₁ l₂
  | [], [], _, _ => .nil
  | [], _ :: _, h, _ => by simp at h
  | _ :: _, [], h, _ => by simp at h
  | a :: l₁, b :: l₂, h, k => .cons (k 0 a b rfl rfl) (paired_of_get (by simpa using h) fun i a b ha hb => k (i + 1) a b (by simpa using ha) (by simpa using hb))
def rListRng : List V → Hp → VK → Prop := fun vs H Q => ∃ p lo hi, vs = [.ref p] ∧ H p = some (.rng lo hi) ∧ -(2 ^ 62) ≤ lo ∧ lo < 2 ^ 62 ∧ -(2 ^ 62) ≤ hi ∧ hi < 2 ^ 62 ∧ (hi - lo).toNat ≤ sizeLine ∧
  ∀ l, H l = none → Q (.ref l) (upd H l (.lst (intsTo lo (hi - lo).toNat)))
theorem call_list_rng (hc : X.calm = true) : CallR X (.type "list") rListRng := by
  intro pins s σ H xs us Q I r h
  obtain ⟨p, lo, hi, rfl, hp, h1, h2, h3, h4, hz, q⟩ := h
  rw [Vals.ref1 r]
  obtain ⟨t, u, v, hr⟩ : ∃ t u v, s.heap.get? p = some { cls := .type "range", data := .fields #[.int lo t, .int hi u, .int 1 v] } := I.hok p _ hp
  have hsz : sizeLine = 16777216 := sizeLine_eq
  refine call_list_range (n := (hi - lo).toNat) (I.ok.hd hc) hr (small_one h1 h2 h3 h4) (by rw [rangeSize_one]; split <;> omega) (by rw [hsz] at hz; exact hz) fun h' tk acc' c' hk hS' hacc => ?_
  obtain ⟨hl, hg⟩ := hacc
  refine ⟨.ref s.heap.objs.size, _, I.laid (o := .lst (intsTo lo (hi - lo).toNat)) hk (Nat.le_refl _) ?_, rfl, q _ (I.hok.fresh (Nat.le_refl _))⟩
  refine ⟨by rw [intsTo_length]; exact hz, acc'.toList, c', ?_, by simpa using hS'⟩
  refine paired_of_get (by rw [intsTo_length]; simp [hl]) fun i a b ha hb => ?_
  obtain ⟨t', e⟩ := hg i b (by simpa using hb)
  have hi' : i < (hi - lo).toNat := by
    have := (List.getElem?_eq_some_iff.mp ha).1
    rwa [intsTo_length] at this
  have ha' : V.int (lo + (i : Nat)) = a := by
    simp only [intsTo, List.getElem?_map, List.getElem?_range hi', Option.map_some] at ha
    exact Option.some.inj ha
  subst ha'
  exact ⟨t', by rw [e, Int.mul_one]⟩
section
variable {prog : Program} {w : World} {A : Around} {E : Value → Shared → Prop} {s : Shared}
theorem nextOf_tup_item {it l : Addr} {i : Nat} {items} {x : Value} {Q : Value → Shared → Prop} (hit : s.heap.IsTupleIter it l i) (hl : s.heap.IsTuple l items) (hx : items[i]? = some x)
    (hQ : ∀ h', h'.IsTupleIter it l (i + 1) → Heap.SameBut it s.heap h' → Q x { s with heap := h' }) : wpAny (model prog w) A (Builtin.SmallTypes.nextOf (.ref it)) Q E s := by
  obtain ⟨o, ho, hc, hd⟩ := id hit; obtain ⟨ol, hol, _, nl, hdl⟩ := hl
  unfold Builtin.SmallTypes.nextOf
  refine wpAny_bind (wpAny_callSpecial?_slot (name := Str.ofString "__next__") hit.typeIs F.slot_tuple_iterator_next (wpAny_call_entry F.slot_tuple_iterator_next hit.typeIs F.entry_tuple_iterator_next ?_ (F.args_tuple_iterator_next_1 _)))
  show wpAny _ _ (field (.ref it) 0 >>= _) _ _ s; refine wpAny_bind (wpAny_field ho hd (x := .ref l) rfl ?_)
  show wpAny _ _ (if (Value.ref l == Value.none) = true then _ else _) _ _ s; rw [if_neg (show ¬ ((Value.ref l == Value.none) = true) from Bool.false_ne_true)]
  show wpAny _ _ (field (.ref it) 1 >>= _) _ _ s; refine wpAny_bind (wpAny_field ho hd (x := .int i 0) rfl ?_)
  show wpAny _ _ (seqItems? (.ref l) >>= _) _ _ s; refine wpAny_bind (wpAny_seqItems hol hdl ?_)
  simp only [Int.toNat_natCast, hx]
  refine wpAny_bind (wpAny_setField ho hd (by simp) (wpAny_pure ⟨x, rfl, wpAny_pure (hQ _ ?_ (Heap.SameBut.update ..))⟩)); exact ⟨_, Heap.get?_update_self _ ho (Obj.isFreed_of_fields (Obj.data_mapFields hd _)), (Obj.cls_mapFields ..).trans hc, by rw [Obj.data_mapFields hd]; simp [rawInt]⟩
theorem nextOf_tup_end {it l : Addr} {i : Nat} {items} {Q : Value → Shared → Prop} (hh : A.handled = none) (hit : s.heap.IsTupleIter it l i) (hl : s.heap.IsTuple l items) (hx : items[i]? = none)
    (hE : ∀ h' e, Heap.ExtBut it s.heap h' → (∃ o, h'.get? e = some o ∧ o.cls = .type "StopIteration") → E (.ref e) { s with heap := h' }) : wpAny (model prog w) A (Builtin.SmallTypes.nextOf (.ref it)) Q E s := by
  obtain ⟨o, ho, hc, hd⟩ := id hit; obtain ⟨ol, hol, _, nl, hdl⟩ := hl
  unfold Builtin.SmallTypes.nextOf
  refine wpAny_bind (wpAny_callSpecial?_slot (name := Str.ofString "__next__") hit.typeIs F.slot_tuple_iterator_next (wpAny_call_entry F.slot_tuple_iterator_next hit.typeIs F.entry_tuple_iterator_next ?_ (F.args_tuple_iterator_next_1 _)))
  show wpAny _ _ (field (.ref it) 0 >>= _) _ _ s; refine wpAny_bind (wpAny_field ho hd (x := .ref l) rfl ?_)
  show wpAny _ _ (if (Value.ref l == Value.none) = true then _ else _) _ _ s; rw [if_neg (show ¬ ((Value.ref l == Value.none) = true) from Bool.false_ne_true)]
  show wpAny _ _ (field (.ref it) 1 >>= _) _ _ s; refine wpAny_bind (wpAny_field ho hd (x := .int i 0) rfl ?_)
  show wpAny _ _ (seqItems? (.ref l) >>= _) _ _ s; refine wpAny_bind (wpAny_seqItems hol hdl ?_)
  simp only [Int.toNat_natCast, hx]; refine wpAny_bind (wpAny_rule (wpAny_bind (wpAny_setField ho hd (by simp) ?_)))
  show wpAny _ _ (newExc (.type "StopIteration") [] >>= _) _ _ _; refine wpAny_bind ?_
  simp only [newExc, newTuple]; refine wpAny_bind (wpAny_newObj_type ?_ (by size_fits))
  refine wpAny_bind (m := firstArgMember _ _) (wpAny_of_eq (a := Value.none) (by first | rfl | (simp only [firstArgMember]; rfl)) ?_); refine wpAny_newObj_type ?_ (by size_fits)
  simp only [raiseNew]; refine wpAny_bind (wpAny_handled ?_); (first | rw [show A.in1.handled = none from hh] | rw [hh]); refine wpAny_bind (wpAny_pure (wpAny_throw ?_))
  exact hE _ _ (((Heap.SameBut.update ..).extBut.push _).push _) ⟨_, Heap.get?_push_size _ rfl, rfl⟩
theorem draws_tup (hh : A.handled = none) (it l : Addr) (hne : l ≠ it) (items : Array Value) :
    Draws prog w A it [it, l] items.size (fun i v => items[i]? = some v) (fun i h => h.IsTupleIter it l i ∧ h.IsTuple l items) where
  live := fun _ _ st => by obtain ⟨⟨o, ho, _⟩, _⟩ := st; exact ⟨o, ho⟩
  frame := fun _ _ _ st hk => ⟨st.1.at fun o e => hk it (by simp) o e, by obtain ⟨_, ⟨o, ho, r⟩⟩ := st; exact ⟨o, hk l (by simp) o ho, r⟩⟩
  item := fun i s Q E hi st hQ => by
    refine nextOf_tup_item st.1 st.2 (x := items[i]) (by simp [hi]) fun h' hit' hs' => hQ _ h' s.toks (by simp [hi]) ⟨hit', ?_⟩ hs'
    obtain ⟨_, ⟨o, ho, r⟩⟩ := st
    exact ⟨o, (hs'.2 l hne).trans ho, r⟩
  done := fun s Q E st hE => nextOf_tup_end hh st.1 st.2 (by simp) hE
open AutoSeq1 (wpAny_loadPart') in
theorem meets_enum_tup (l : Addr) (items : Array Value) (n : Nat) (dct : Option Addr) (sl : Array (Option Value)) :
    Meets (Builtin.«enumerate.__new__» ⟨[.type "enumerate", .ref l], []⟩) (fun _ R s => s.heap.get? l = some { cls := .type "tuple", dict := dct, data := .seq items n, slots := sl } ∧
      R (.ok (.ret (.ref (s.heap.push { cls := .type "tuple_iterator", data := .fields #[.ref l, .int 0 0] }).objs.size)))
        { s with heap := (s.heap.push { cls := .type "tuple_iterator", data := .fields #[.ref l, .int 0 0] }).push { cls := .type "enumerate", data := .fields #[.none, .bool false, .ref s.heap.objs.size, rawInt 0, .none, .none] } }) :=
  .of_wp fun prog w A R s h => by
    obtain ⟨hp, g, d, tk, os⟩ := s; obtain ⟨hl, h⟩ := h
    have hsub := sub_enumerate; have hL : Heap.IsTuple (Shared.heap ⟨hp, g, d, tk, os⟩) l items := ⟨_, hl, rfl, n, rfl⟩
    wp_walk using wpAny_loadPart' hl
    refine wpAny_stack_any fun st => wpAny_pure ?_
    split
    · rename_i c _ _ _ _ _
      cases (c == Value.type "enumerate") <;> (wp_walk using wpAny_loadPart' hl, wpAny_pyIter_tuple hL; exact ⟨_, rfl, h⟩)
    · wp_walk using wpAny_loadPart' hl, wpAny_pyIter_tuple hL; exact ⟨_, rfl, h⟩
theorem call_enum_tup {l : Addr} {items : Array Value} {Q : Value → Shared → Prop} (hL : s.heap.IsTuple l items)
    (h : ∀ h', IsEnum h' (s.heap.objs.size + 1) s.heap.objs.size 0 .none → h'.IsTupleIter s.heap.objs.size l 0 → h'.objs.size = s.heap.objs.size + 2 → (∀ b o, s.heap.get? b = some o → h'.get? b = some o) → Q (.ref (s.heap.objs.size + 1)) { s with heap := h' }) :
    wpAny (model prog w) A (call (.type "enumerate") [.ref l]) Q E s := by
  obtain ⟨⟨c, dct, dt, sl⟩, hl, hc, n, hd⟩ := hL
  replace hc : c = .type "tuple" := hc
  replace hd : dt = .seq items n := hd
  subst hc hd
  refine callType_new F.called_enumerate (by decide) (F.typeCall_enumerate_1 _) (F.newCall_enumerate_1 _) (fun obj => F.args_object_init_2 obj _) F.entry_enumerate_new (meets_enum_tup l items n dct sl) ⟨hl, ?_⟩
  have hz : (s.heap.push { cls := .type "tuple_iterator", data := .fields #[.ref l, .int 0 0] }).objs.size = s.heap.objs.size + 1 := Heap.size_push ..
  show _ ∧ _
  rw [hz]
  have he : IsEnum ((s.heap.push { cls := .type "tuple_iterator", data := .fields #[.ref l, .int 0 0] }).push { cls := .type "enumerate", data := .fields #[.none, .bool false, .ref s.heap.objs.size, rawInt 0, .none, .none] }) (s.heap.objs.size + 1) s.heap.objs.size 0 .none := by
    have := Heap.get?_push_size (s.heap.push { cls := .type "tuple_iterator", data := .fields #[.ref l, .int 0 0] }) (o := { cls := .type "enumerate", data := .fields #[.none, .bool false, .ref s.heap.objs.size, rawInt 0, .none, .none] }) rfl
    rw [hz] at this; exact this
  refine ⟨⟨_, he, rfl⟩, h _ he ⟨_, Heap.get?_push_of_some _ (Heap.get?_push_size _ rfl), rfl, rfl⟩ (by rw [Heap.size_push, hz]) fun b o x => Heap.get?_push_of_some _ (Heap.get?_push_of_some _ x)⟩
end
def IteT (K : PySem.W.Frag) (a : Addr) : It :=
  ⟨fun i H => ∃ (xs : List V) (x : V), SqT K H a xs ∧ xs[i]? = some x, fun i H v H' => ∃ T x, v = .ref T ∧ H T = none ∧ H' = upd H T (.tup [.int (i : Nat), x]) ∧ ∀ xs, SqT K H a xs → xs[i]? = some x, fun i H => ∃ xs : List V, SqT K H a xs ∧ xs.length ≤ i⟩
theorem turn_enumT {P : Program} {w : World} {K : PySem.W.Frag} {elts : List Expr} {kk : Nat} {tpos : Pos} (a e it : Addr) :
    Turn P w K (.Tuple elts kk tpos) (IteT K a) [e, it] e (fun i h => (∃ old, IsEnum h e it ((i : Nat) : Int) old) ∧ h.IsTupleIter it a i ∧ e ≠ it ∧ a ≠ it ∧ a ≠ e) where
  mem := by simp
  obj := fun i h st b hb => by
    obtain ⟨⟨old, he⟩, ⟨o, ho, hc, hd⟩, _⟩ := st
    have e' : b = e ∨ b = it := by simpa using hb
    rcases e' with z | z
    · rw [z]; exact ⟨_, he, fun v q => nomatch q⟩
    · rw [z]; exact ⟨o, ho, fun v q => by rw [hd] at q; cases q⟩
  keep := fun i h h' st k => by
    obtain ⟨⟨old, he⟩, hi, hne⟩ := st
    exact ⟨⟨old, k e (by simp) _ he⟩, hi.at fun o q => k it (by simp) o q, hne⟩
  item := by
    intro X hP hw hK hc i pins s σ H E I hf st hg
    subst hP hw hK
    obtain ⟨⟨old, he⟩, hit, hne, hai, hae⟩ := st
    obtain ⟨xs, x, hq, hx⟩ := hg
    obtain ⟨its, rv, p, hz⟩ := I.tuple hq
    obtain ⟨u, hu, ru⟩ := rv.get hx
    have hel : e < s.heap.objs.size := Heap.lt_size he
    have hil : it < s.heap.objs.size := by obtain ⟨_, q, _⟩ := hit; exact Heap.lt_size q
    have hil' : i < its.toArray.size := by simpa using (List.getElem?_eq_some_iff.mp hu).1
    refine wpAny_pyNext_enum_itemD (draws_tup (A := X.A.in1) (I.ok.hd hc) it a hai its.toArray) he ⟨hit, p⟩ hil' hne (by simp [hne, Ne.symm hae]) fun x' h' tk hx' ho hit' hT hsz hk => ?_
    have ex : x' = u := by
      have e1 : its[i]? = some x' := by simpa using hx'
      rw [hu] at e1
      exact (Option.some.inj e1).symm
    subst ex
    refine ⟨_, rfl, wpAny_letOwnedTupleGo_enum (s := { s with heap := h', toks := tk + 1 }) ho fun h'' he' sb => ?_⟩
    have hT2 : h''.get? s.heap.objs.size = some { cls := .type "tuple", data := .seq #[.int i tk, x'] } := (sb.2 _ (Nat.ne_of_gt hel)).trans hT
    have new : ObjOk X.prog X.w (upd H s.heap.objs.size (.tup [.int (i : Nat), x])) h'' s.heap.objs.size (.tup [.int (i : Nat), x]) :=
      ⟨by show 2 ≤ sizeLine; decide, [.int i tk, x'], .cons ⟨_, rfl⟩ (.cons ru .nil), ⟨_, hT2, rfl, rfl, _, rfl⟩⟩
    have I1 : Inv X pins σ (upd H s.heap.objs.size (.tup [.int (i : Nat), x])) { s with heap := h'', toks := tk + 1 } :=
      I.turnedNew (ch := [e, it]) (fun b ob hb q => (sb.2 b (fun z => hb (by simp [z]))).trans (hk b ob (fun z => hb (by simp [z])) (fun z => hb (by simp [z])) q)) hf (Nat.le_refl _) new
    refine ⟨.ref s.heap.objs.size, _, I1, rfl, ⟨_, x, rfl, I.hok.fresh (Nat.le_refl _), rfl, fun ys hy => by rw [I.tuple_inj hy hq]; exact hx⟩, ⟨⟨x', ?_⟩, hit'.1.at fun o q => (sb.2 it (Ne.symm hne)).trans q, hne, hai, hae⟩, fun b hb => ?_⟩
    · have e1 : ((i + 1 : Nat) : Int) = (i : Int) + 1 := by omega
      rw [e1]; exact he'
    · have hb' : b < s.heap.objs.size := by
        have e' : b = e ∨ b = it := by simpa using hb
        rcases e' with z | z
        · rw [z]; exact hel
        · rw [z]; exact hil
      rw [upd_ne (Nat.ne_of_lt hb')]; exact (hf b hb).1
  done := by
    intro X hP hw hK hc i pins s σ H E I hf st hg
    subst hP hw hK
    obtain ⟨⟨old, he⟩, hit, hne, hai, hae⟩ := st
    obtain ⟨xs, hq, hx⟩ := hg
    obtain ⟨its, rv, p, hz⟩ := I.tuple hq
    obtain ⟨f0, f1, f2, f3, f4, f5⟩ := hf it (by simp)
    have hT : s.TypeIs (.ref e) "enumerate" := ⟨_, he, rfl⟩
    have hl := rv.length
    unfold pyNext
    refine wpAny_bind (wpAny_attempt (wpAny_callSpecial?_slot (name := Str.ofString "__next__") hT F.slot_enumerate_next (wpAny_call_entry F.slot_enumerate_next hT F.entry_enumerate_next ?_ (F.args_enumerate_next_1 _))))
    show wpAny _ _ (field (.ref e) 2 >>= _) _ _ _; refine wpAny_bind (wpAny_field he rfl (x := .ref it) rfl ?_)
    refine wpAny_bind (nextOf_tup_end (A := X.A.in1) (I.ok.hd hc) hit p (by simp; omega) fun h' y he' hx' => ?_)
    obtain ⟨o, ho, hc'⟩ := hx'
    refine wpAny_bind (wpAny_isInstance (T := "StopIteration") (b := true) ⟨o, ho, hc'⟩ isSubtype_stop ?_); exact wpAny_pure ⟨rfl, I.turned (t' := s.toks) (fun b o hb q => he' b o hb q) f0 f1 f3 f4 f5⟩
  self := fun A i s Q E st h => by obtain ⟨⟨_, he⟩, _⟩ := st; exact wpAny_pyIter_enum he h
def iEnumT (K : PySem.W.Frag) (ta : TA) : TI := fun σ H R => ta σ H fun vs H1 => ∃ a xs, vs = [.ref a] ∧ SqT K H1 a xs ∧ R (IteT K a) H1
theorem pi_enumT {e : Expr} {ta : TA} {p pos tpos : Pos} {elts : List Expr} {kk : Nat} (hg : Gl X "enumerate") (hm : X.mg "enumerate" = none) (ha : PA X [e] ta) (hs : starEach [e] X.env = [(false, eval e X.env)] := by rfl) :
    PI X (.Tuple elts kk tpos) (.Call (.Name "enumerate" p) [e] [] pos) (iEnumT X.K ta) := by
  intro pins s σ H R I h
  refine Call_ (ld_blt I hg hm boot_enumerate (PyProof.Rows.callWith_type1 (thn (ha pos pins s σ H _ I h) fun us s1 ⟨vs, H1, I1, r1, q1⟩ => ?_) hs rfl))
  obtain ⟨a, xs, ex, hq, q⟩ := q1
  subst ex
  rw [Vals.ref1 r1]
  obtain ⟨its, rv, p', hz⟩ := I1.tuple hq
  have hal : a < s1.heap.objs.size := by obtain ⟨_, e, _⟩ := p'; exact Heap.lt_size e
  refine call_enum_tup (show s1.heap.IsTuple a its.toArray from p') fun h' he hit hsz hk => wpAny_pyIter_enum he ?_
  have I2 : Inv X pins σ H1 { s1 with heap := h' } := I1.kept (t' := s1.toks) hk
  refine ⟨s1.heap.objs.size + 1, [s1.heap.objs.size + 1, s1.heap.objs.size], _, _, H1, rfl, I2, turn_enumT a (s1.heap.objs.size + 1) s1.heap.objs.size, ⟨⟨.none, he⟩, hit, Nat.succ_ne_self _, Nat.ne_of_lt hal, Nat.ne_of_lt (Nat.lt_succ_of_lt hal)⟩, fun b hb => ?_, q⟩
  have e' : b = s1.heap.objs.size + 1 ∨ b = s1.heap.objs.size := by simpa using hb
  have hle : s1.heap.objs.size ≤ b := by
    rcases e' with z | z
    · rw [z]; exact Nat.le_succ _
    · rw [z]; exact Nat.le_refl _
  exact I1.fpOk hle (I1.hok.fresh hle)
theorem for_enumT {K : PySem.W.Frag} {a : Addr} {xs : List V} {g : TG} {tb : TS} {D : Ends} {σ : St} {H : Hp} (Pv : Nat → St → Hp → Prop) (h0 : Pv 0 σ H) (hl : ∀ i σ H, i ≤ xs.length → Pv i σ H → SqT K H a xs)
    (hs : ∀ i x T σ H, xs[i]? = some x → Pv i σ H → H T = none → g (.ref T) σ (upd H T (.tup [.int (i : Nat), x])) fun σ2 H2 => tb { D with nx := Pv (i + 1), ct := Pv (i + 1), bk := D.nx } σ2 H2) (hd : ∀ σ H, Pv xs.length σ H → D.nx σ H) :
    ∃ W : Nat → Nat → St → Hp → Prop, (∃ m, W 0 m σ H) ∧ ∀ i m σ H, W i m σ H →
      ((IteT K a).stop i H ∧ D.nx σ H) ∨ ((IteT K a).go i H ∧ ∃ N : St → Hp → Prop, (∀ σ' H', N σ' H' → ∃ m', m' < m ∧ W (i + 1) m' σ' H') ∧ ∀ x H', (IteT K a).yld i H x H' → g x σ H' fun σ2 H2 => tb { D with nx := N, ct := N, bk := D.nx } σ2 H2) := by
  refine ⟨fun i m σ H => m = xs.length - i ∧ i ≤ xs.length ∧ Pv i σ H, ⟨xs.length, by simp, Nat.zero_le _, h0⟩, ?_⟩
  rintro i m σ H ⟨rfl, hi, p⟩
  have q := hl i σ H hi p
  by_cases hlt : i < xs.length
  · refine .inr ⟨⟨xs, xs[i], q, by simp [hlt]⟩, Pv (i + 1), fun σ' H' p' => ⟨xs.length - (i + 1), by omega, rfl, hlt, p'⟩, fun v H' y => ?_⟩
    obtain ⟨T, x, rfl, hT, rfl, y⟩ := y
    exact hs i x T σ _ (y xs q) p hT
  · have e : i = xs.length := by omega
    subst e
    exact .inl ⟨⟨xs, q, Nat.le_refl _⟩, hd σ H p⟩
theorem op_mulK : OpR X (binaryOp .Mult) (rI IntMulOk fun i j => .int (i * j)) := opI fun _ _ _ _ _ _ _ hc q => mul_int q hc
theorem big60 : IntMulOk (10 ^ 60) (10 ^ 60) := by unfold IntMulOk; decide +kernel
end
end L2
set_option Elab.async false
set_option linter.all false
set_option maxRecDepth 100000
namespace L2
open PySem PySem.Spec PyProof.Rows
structure Fn (P : Program) (w : World) (K : PySem.W.Frag) (mg : Str → Option Value) (base : Heap) (x : Str) (ps : List Str) (k : Nat) (sp : Sp) : Prop where
  ex : ∃ f fd, FnOk P w K mg base CX0 k f fd ps sp ∧ Binds K fd ps [] ∧ PySem.W.keepIn K (.ref f) = true ∧ mg x = some (.ref f)
section
variable {X : Cx} {x : Str} {ps : List Str} {k j : Nat} {sp : Sp} {e : Expr} {es : List Expr} {t : TA} {p pos : Pos}
theorem pe_callF (F : Fn X.prog X.w X.K X.mg X.base x ps k sp) (hr : Room j X.A) (hk : k ≤ j) (ha : PA X (e :: es) t) (hg : Gl X x := by rfl) (hdb : (x == ("__debug__" : Str)) = false := by decide)
    (he : starEach (e :: es) X.env = (false, eval e X.env) :: starEach es X.env := by rfl) (hpl : (backTo pos (starEach es X.env)).any (·.1) = false := by rfl) : PE X (.Call (.Name x p) (e :: es) [] pos) (tCall sp [] E0 t) := by
  obtain ⟨f, fd, G, b, kp, m⟩ := F.ex
  exact pe_call G (hr.mono hk) hg m kp b .nil pass0 ha hdb he hpl
end
section
variable {X : Cx}
end
structure Bi (mg : Str → Option Value) : Prop where
  len_ : mg "len" = none
  range_ : mg "range" = none
  list_ : mg "list" = none
  tuple_ : mg "tuple" = none
  min_ : mg "min" = none
  int_ : mg "int" = none
  bool_ : mg "bool" = none
  isinstance_ : mg "isinstance" = none
  set_ : mg "set" = none
  all_ : mg "all" = none
  enumerate_ : mg "enumerate" = none
theorem bt_len : bootBuiltins "len" = some (.builtin "len") := by decide +kernel
theorem bt_range : bootBuiltins "range" = some (.type "range") := by decide +kernel
theorem bt_list : bootBuiltins "list" = some (.type "list") := by decide +kernel
theorem bt_tuple : bootBuiltins "tuple" = some (.type "tuple") := by decide +kernel
theorem bt_min : bootBuiltins "min" = some (.builtin "min") := by decide +kernel
theorem bt_int : bootBuiltins "int" = some (.type "int") := by decide +kernel
theorem bt_set : bootBuiltins "set" = some (.type "set") := by decide +kernel
theorem bt_sorted : bootBuiltins "sorted" = some (.builtin "sorted") := by decide +kernel
theorem bt_sum : bootBuiltins "sum" = some (.builtin "sum") := by decide +kernel
section
variable {X : Cx}
end
end L2
set_option Elab.async false
set_option linter.all false
set_option maxRecDepth 100000
set_option maxHeartbeats 600000
namespace Hs
open PySem L2
def top (i : Nat) : Stmt := PySem.Challenge.pw_halfseams_k09_whole_known_counts.main.body.getD i (.Pass ⟨0, 0, 0, 0⟩)
abbrev s_check_half : Stmt := top 5
abbrev s_right_of : Stmt := top 7
abbrev s_patch_of : Stmt := top 8
abbrev s_rim_of : Stmt := top 9
abbrev s_knots : Stmt := top 10
abbrev s_seams : Stmt := top 11
abbrev s_patches : Stmt := top 12
abbrev s_rims : Stmt := top 13
abbrev s_all_halves : Stmt := top 14
abbrev s_all_ahead : Stmt := top 15
abbrev s_first_of_knot : Stmt := top 16
abbrev s_walk_left : Stmt := top 17
abbrev s_each_once : Stmt := top 18
abbrev s_parts : Stmt := top 20
abbrev s_reached_from : Stmt := top 21
abbrev s_counts : Stmt := top 22
abbrev s_handles_of : Stmt := top 23
abbrev s_totals : Stmt := top 24
abbrev s__law_net : Stmt := top 26
abbrev s__law_word_skin : Stmt := top 27
abbrev sBag : Stmt := top 28
abbrev sTake : Stmt := top 29
abbrev s__law_renumbered : Stmt := top 30
abbrev sLaw : Stmt := top 31
theorem itP {c : Bool} {A B : Prop} (h : c = true) (a : A) : if c = true then A else B := by rw [if_pos h]; exact a
theorem itN {c : Bool} {A B : Prop} (h : c = false) (b : B) : if c = true then A else B := by rw [if_neg (by rw [h]; exact Bool.false_ne_true)]; exact b
theorem at0 {α : Type} (a : α) (r : List α) : atI (a :: r) 0 = some a := atI_nat (j := 0) rfl
theorem at1 {α : Type} (a b : α) (r : List α) : atI (a :: b :: r) 1 = some b := atI_nat (j := 1) rfl
theorem atN {α : Type} {xs : List α} {i : Int} {v : α} (h0 : 0 ≤ i) (h : xs[i.toNat]? = some v) : atI xs i = some v := by
  rw [show i = ((i.toNat : Nat) : Int) by omega]; exact atI_nat h
theorem lt63 {n : Nat} (h : n ≤ 1000) : n ≤ sizeLine := Nat.le_of_lt (small1000 h)
section
variable {P : Program} {w : World} {K : PySem.W.Frag} {mg : Str → Option Value} {base : Heap} {f : Addr} {fd : FuncData}
def Only1 (b : Addr) (H H' : Hp) : Prop := ∀ c, c ≠ b → H' c = H c
theorem only1_upd {b : Addr} {H : Hp} {o : HO} : Only1 b H (upd H b o) := fun _ hc => upd_ne hc
def spTake : Sp := fun vs H Q _ => ∃ (b : Addr) (x y many : Int), vs = [.ref b, .int many] ∧ H b = some (.lst [.int x, .int y]) ∧ 0 < many ∧ many < 1073741824 ∧
  ∀ (r : Int) (H' : Hp) (x' y' : Int), 0 ≤ r → r < many → H' b = some (.lst [.int x', .int y']) → Only1 b H H' → Q (.int r) H'
theorem scTake : FnScope ["bag", "many", "found"] ["bag", "many"] (defScope sTake) := ⟨rfl, rfl, rfl, by decide +kernel, rfl, by decide +kernel, by decide +kernel⟩
theorem ok_take (F : Fun K "_law_take" "_law_take" sTake f fd) : FnOk P w K mg base CX0 1 f fd ["bag", "many"] spTake := by
  refine F.ok scTake (fun vs H Q E h => ?_) (fun cdv A outer s H vs Q E hr h => ?_)
  · obtain ⟨b, x, y, many, rfl, _⟩ := h; rfl
  obtain ⟨b, x, y, many, rfl, hb, h0, h1, q⟩ := h
  refine ⟨_, (pss_cons (ps_if (pt_cmpR op_gt (pe_ix ix_list (pv 0) pe_int (fun _ _ => rfl)) pe_int (nomark _))
   (pss_cons (ps_set (i := 2) scTake.nd rfl (Or.inl rfl) (pe_op op_mod (pe_ix ix_list (pv 0) pe_int (fun _ _ => rfl)) (pv 1)))
   (pss_cons (ps_asg (pe_op op_fdiv (pe_ix ix_list (pv 0) pe_int (fun _ _ => rfl)) (pv 1)) (pg_sub (pv 0) pe_int set_list))
   (pss_one (ps_ret (pv 2)))))
   pss_nil)
   (pss_cons (ps_asg (pe_op op_mod (pe_op op_mul (pe_ix ix_list (pv 0) pe_int (fun _ _ => rfl)) pe_int) pe_int) (pg_sub (pv 0) pe_int set_list))
   (pss_one (ps_ret (pe_op op_mod (pe_op op_fdiv (pe_op op_mod (pe_op op_mul (pe_ix ix_list (pv 0) pe_int (fun _ _ => rfl)) (pe_ix ix_list (pv 0) pe_int (fun _ _ => rfl))) pe_int) pe_int) (pv 1)))))), ?_⟩
  refine ⟨_, rfl, b, _, _, _, rfl, rfl, SqL.of hb, at0 _ _, _, _, rfl, rfl, _, rfl, ite2 (fun _ => ?_) (fun _ => ?_)⟩
  · refine ⟨_, rfl, b, _, _, _, rfl, rfl, SqL.of hb, at0 _ _, _, rfl, _, _, rfl, rfl, h0, ?_⟩
    refine ⟨_, rfl, b, _, _, _, rfl, rfl, SqL.of hb, at0 _ _, _, rfl, _, _, rfl, rfl, ⟨h0, h1⟩, _, rfl, b, _, _, 0, rfl, rfl, hb, rfl, ?_⟩
    exact ⟨_, rfl, q _ _ _ _ (Int.emod_nonneg _ (by omega)) (Int.emod_lt_of_pos _ h0) upd_same only1_upd⟩
  · refine ⟨_, rfl, b, _, _, _, rfl, rfl, SqL.of hb, at1 _ _ _, _, _, rfl, rfl, .inr ⟨by decide, by decide⟩, _, _, rfl, rfl, (by show (0 : Int) < 2147483647; decide), _, rfl, b, _, _, 1, rfl, rfl, hb, rfl, ?_⟩
    have z0 : 0 ≤ y * 48271 % 2147483647 := Int.emod_nonneg _ (by decide)
    have z1 : y * 48271 % 2147483647 < 2147483647 := Int.emod_lt_of_pos _ (by decide)
    refine ⟨_, rfl, b, _, _, _, rfl, rfl, SqL.of upd_same, at1 _ _ _, _, rfl, b, _, _, _, rfl, rfl, SqL.of upd_same, at1 _ _ _, _, _, rfl, rfl, .inl ⟨by omega, by omega⟩, _, _, rfl, rfl, (by show (0 : Int) < 2147483629; decide), _, _, rfl, rfl, ⟨by decide, by decide⟩, _, rfl, _, _, rfl, rfl, h0, ?_⟩
    exact q _ _ _ _ (Int.emod_nonneg _ (by omega)) (Int.emod_lt_of_pos _ h0) upd_same only1_upd
def spBag (K : PySem.W.Frag) : Sp := fun vs H Q _ => ∃ (a : Addr) (ns : List Int) (k : Int), vs = [.ref a, .int k] ∧ SqL K H a (ns.map V.int) ∧ ns.length ≤ 63 ∧ 0 ≤ k ∧
  ∀ (p : Addr) (x y : Int), H p = none → Q (.ref p) (upd H p (.lst [.int x, .int y]))
theorem scBag : FnScope ["script", "k", "cell"] ["script", "k"] (defScope sBag) := ⟨rfl, rfl, rfl, by decide +kernel, rfl, by decide +kernel, by decide +kernel⟩
theorem big_pos : (0 : Int) < 10 ^ (60 : Int).toNat * 10 ^ (60 : Int).toNat := by decide +kernel
theorem ok_bag (B : Bi mg) (F : Fun K "_law_bag" "_law_bag" sBag f fd) : FnOk P w K mg base CX0 1 f fd ["script", "k"] (spBag K) := by
  refine F.ok scBag (fun vs H Q E h => ?_) (fun cdv A outer s H vs Q E hr h => ?_)
  · obtain ⟨a, ns, k, rfl, _⟩ := h; rfl
  obtain ⟨a, ns, k, rfl, hS, h63, h0, q⟩ := h
  refine ⟨_, (pss_cons (ps_set (i := 2) scBag.nd rfl (Or.inl rfl) pe_int)
   (pss_cons (ps_if (pt_cmpR op_lt (pv 1) (pe_callB call_len_seq rfl B.len_ bt_len (pa_cons (pv 0) pa_nil)) (nomark _))
   (pss_one (ps_set (i := 2) scBag.nd rfl (Or.inl rfl) (pe_op op_mod (pe_ix ix_list (pv 0) (pv 1) (fun _ _ => rfl)) (pe_op op_mulK (pe_op op_pow pe_int pe_int) (pe_op op_pow pe_int pe_int)))))
   pss_nil)
   (pss_cons (ps_if (pt_cmpR op_lt (pv 2) (pe_op op_pow pe_int pe_int) (nomark _))
   (pss_one (ps_ret (pe_lst (pa_cons pe_int (pa_cons (pe_op op_add pe_int (pe_op op_mod (pe_op op_add (pe_op op_mul (pv 2) pe_int) (pe_op op_mul pe_int (pv 1))) pe_int)) pa_nil)))))
   pss_nil)
   (pss_one (ps_ret (pe_lst (pa_cons (pv 2) (pa_cons (pe_op op_add pe_int (pe_op op_mod (pe_op op_add (pv 2) (pv 1)) pe_int)) pa_nil)))))))), ?_⟩
  have hl : (ns.map V.int).length = ns.length := List.length_map _
  refine ⟨_, rfl, _, rfl, a, _, rfl, .inl hS, _, _, rfl, rfl, _, rfl, ite2 (fun c => ?_) (fun c => ?_)⟩
  · have c' : k < ((ns.map V.int).length : Int) := of_decide_eq_true c
    rw [hl] at c'
    have hk : k.toNat < ns.length := by omega
    refine ⟨_, rfl, _, rfl, a, _, _, .int ns[k.toNat], rfl, rfl, hS, atN h0 (by rw [List.getElem?_map, List.getElem?_eq_getElem hk] <;> rfl), _, _, rfl, rfl, ⟨by decide, by decide, by decide⟩, _, _, rfl, rfl, ⟨by decide, by decide, by decide⟩, _, _, rfl, rfl, big60, _, _, rfl, rfl, big_pos, ?_⟩
    refine ⟨_, rfl, _, _, rfl, rfl, ⟨by decide, by decide, by decide⟩, _, _, rfl, rfl, _, rfl, ite2 (fun c => ?_) (fun c => ?_)⟩
    · refine ⟨_, rfl, _, _, rfl, rfl, .inr ⟨by decide, by decide⟩, _, rfl, _, _, rfl, rfl, .inl ⟨by decide, by decide⟩, _, _, rfl, rfl, _, _, rfl, rfl, (by show (0 : Int) < 2147483646; decide), _, _, rfl, rfl, (by show 2 ≤ sizeLine; decide), fun p hp => q p _ _ hp⟩
    · refine ⟨_, rfl, _, rfl, _, rfl, _, _, rfl, rfl, _, _, rfl, rfl, (by show (0 : Int) < 2147483646; decide), _, _, rfl, rfl, (by show 2 ≤ sizeLine; decide), fun p hp => q p _ _ hp⟩
  · refine ⟨_, rfl, _, _, rfl, rfl, ⟨by decide, by decide, by decide⟩, _, _, rfl, rfl, _, rfl, ite2 (fun c => ?_) (fun c => ?_)⟩
    · refine ⟨_, rfl, _, _, rfl, rfl, .inr ⟨by decide, by decide⟩, _, rfl, _, _, rfl, rfl, .inl ⟨by decide, by decide⟩, _, _, rfl, rfl, _, _, rfl, rfl, (by show (0 : Int) < 2147483646; decide), _, _, rfl, rfl, (by show 2 ≤ sizeLine; decide), fun p hp => q p _ _ hp⟩
    · refine ⟨_, rfl, _, rfl, _, rfl, _, _, rfl, rfl, _, _, rfl, rfl, (by show (0 : Int) < 2147483646; decide), _, _, rfl, rfl, (by show 2 ≤ sizeLine; decide), fun p hp => q p _ _ hp⟩
end
end Hs
set_option Elab.async false
set_option linter.all false
set_option maxRecDepth 100000
set_option maxHeartbeats 600000
namespace Hs
open PySem L2
def mV : Option Int → V
  | none => .non
  | some i => .int i
theorem get_mV {ms : List (Option Int)} {i : Nat} (h : i < ms.length) : (ms.map mV)[i]? = some (mV ms[i]) := by
  rw [List.getElem?_map, List.getElem?_eq_getElem h] <;> rfl
theorem same_new {H : Hp} {p : Addr} (h : H p = none) (o : HO) : Same H (upd H p o) := fun b u q => by rw [upd_ne (ne_of_none q h)]; exact q
end Hs
set_option linter.all false
namespace Hs
def lk (l : List Int) (x : Int) : Int := l.getD x.toNat 0
theorem lk_get {l : List Int} {x : Int} (h : x.toNat < l.length) : l[x.toNat]? = some (lk l x) := by
  unfold lk; rw [List.getD_eq_getElem?_getD, List.getElem?_eq_getElem h]; rfl
theorem lk_set {l : List Int} {j : Nat} {v x : Int} (h : j < l.length) : lk (l.set j v) x = if x.toNat = j then v else lk l x := by
  unfold lk
  rw [List.getD_eq_getElem?_getD, List.getElem?_set, List.getD_eq_getElem?_getD]
  by_cases e : j = x.toNat
  · rw [if_pos e, if_pos h, if_pos e.symm]; rfl
  · rw [if_neg e, if_neg (fun z => e z.symm)]
structure Ord (n : Nat) (o : List Int) : Prop where
  len : o.length = n
  nd : o.Nodup
  mem : ∀ x : Int, x ∈ o ↔ 0 ≤ x ∧ x < n
theorem Ord.nil : Ord 0 [] := ⟨rfl, List.nodup_nil, fun x => ⟨fun h => (by cases h), fun h => (by omega)⟩⟩
theorem Ord.put {n : Nat} {o : List Int} (h : Ord n o) (r : Nat) : Ord (n + 1) (o.take r ++ (n : Int) :: o.drop r) := by
  have hp : (o.take r ++ (n : Int) :: o.drop r).Perm ((n : Int) :: o) := by
    have := (List.perm_middle (a := (n : Int)) (l₁ := o.take r) (l₂ := o.drop r))
    rwa [List.take_append_drop] at this
  refine ⟨by rw [hp.length_eq, List.length_cons, h.len], hp.nodup_iff.mpr (List.nodup_cons.mpr ⟨fun z => ?_, h.nd⟩), fun x => ?_⟩
  · have := (h.mem _).mp z; omega
  · rw [hp.mem_iff, List.mem_cons, h.mem]; omega
structure Sewn (n : Nat) (done : List Int) (on : List Int) : Prop where
  len : on.length = n
  into : ∀ x ∈ done, lk on x ∈ done
  inj : ∀ x ∈ done, ∀ y ∈ done, lk on x = lk on y → x = y
  sur : ∀ y ∈ done, ∃ x ∈ done, lk on x = y
theorem Sewn.nil {n : Nat} {on : List Int} (h : on.length = n) : Sewn n [] on := ⟨h, (fun x hx => by cases hx), (fun x hx => by cases hx), (fun x hx => by cases hx)⟩
def prv (s j : Nat) : Nat := if j = 0 then s - 1 else j - 1
structure Sewing (n : Nat) (patch : List Int) (on0 : List Int) (i : Nat) (on : List Int) : Prop where
  len : on.length = n
  did : ∀ j, j < i → ∀ x, patch[prv patch.length j]? = some x → ∀ y, patch[j]? = some y → lk on x = y
  out : ∀ x, 0 ≤ x → x ∉ patch → lk on x = lk on0 x
theorem Sewing.start {n : Nat} {patch on0 : List Int} (h : on0.length = n) : Sewing n patch on0 0 on0 := ⟨h, fun j hj => absurd hj (Nat.not_lt_zero _), fun _ _ _ => rfl⟩
theorem nd_at {l : List Int} (hN : l.Nodup) {i j : Nat} {x : Int} (a : l[i]? = some x) (b : l[j]? = some x) : i = j := by
  obtain ⟨h1, e1⟩ := List.getElem?_eq_some_iff.mp a
  obtain ⟨h2, e2⟩ := List.getElem?_eq_some_iff.mp b
  exact (List.getElem_inj hN).mp (e1.trans e2.symm)
theorem prv_inj {s i j : Nat} (hi : i < s) (hj : j < s) (h : prv s i = prv s j) : i = j := by unfold prv at h; split at h <;> split at h <;> omega
theorem prv_lt {s j : Nat} (hj : j < s) : prv s j < s := by unfold prv; split <;> omega
theorem Sewing.turn {n : Nat} {patch on0 on : List Int} {i : Nat} {x y : Int} (S : Sewing n patch on0 i on) (nd : patch.Nodup) (hr : ∀ z ∈ patch, 0 ≤ z ∧ z < n) (hi : i < patch.length) (hx : patch[prv patch.length i]? = some x) (hy : patch[i]? = some y) :
    Sewing n patch on0 (i + 1) (on.set x.toNat y) := by
  have hxm := hr x (List.mem_of_getElem? hx)
  have hxl : x.toNat < on.length := by rw [S.len]; omega
  refine ⟨by rw [List.length_set, S.len], fun j hj u hu v hv => ?_, fun z hz hn => ?_⟩
  · have hum := hr u (List.mem_of_getElem? hu)
    have hjl : j < patch.length := (List.getElem?_eq_some_iff.mp hv).1
    rw [lk_set hxl]
    by_cases e : u.toNat = x.toNat
    · have eu : u = x := by omega
      subst eu
      have := prv_inj hjl hi (nd_at nd hu hx)
      subst this
      rw [if_pos rfl]
      rw [hy] at hv
      exact Option.some.inj hv
    · rw [if_neg e]
      refine S.did j ?_ u hu v hv
      rcases Nat.lt_or_ge j i with h | h
      · exact h
      · have : j = i := by omega
        subst this
        rw [hx] at hu
        exact absurd (congrArg Int.toNat (Option.some.inj hu).symm) e
  · rw [lk_set hxl, if_neg (fun e => hn ?_)]
    · exact S.out z hz hn
    · have : z = x := by omega
      rw [this]; exact List.mem_of_getElem? hx
theorem Sewn.more {n : Nat} {done patch on0 on : List Int} (D : Sewn n done on0) (S : Sewing n patch on0 patch.length on) (nd : (done ++ patch).Nodup) (hr : ∀ z ∈ done ++ patch, 0 ≤ z ∧ z < n) : Sewn n (done ++ patch) on := by
  obtain ⟨nd1, nd2, nd3⟩ := List.nodup_append.mp nd
  have old : ∀ x ∈ done, lk on x = lk on0 x := fun x hx => S.out x (hr x (List.mem_append_left _ hx)).1 fun z => nd3 x hx x z rfl
  have new : ∀ x ∈ patch, ∃ j, j < patch.length ∧ patch[prv patch.length j]? = some x ∧ patch[j]? = some (lk on x) := fun x hx => by
    obtain ⟨k, hk, e⟩ := List.getElem_of_mem hx
    obtain ⟨j, hj, ej⟩ : ∃ j, j < patch.length ∧ prv patch.length j = k := by
      by_cases z : k + 1 = patch.length
      · exact ⟨0, by omega, by unfold prv; rw [if_pos rfl]; omega⟩
      · exact ⟨k + 1, by omega, by unfold prv; rw [if_neg (by omega)]; omega⟩
    have h1 : patch[prv patch.length j]? = some x := by rw [ej, List.getElem?_eq_getElem hk, e]
    have h2 : patch[j]? = some patch[j] := List.getElem?_eq_getElem hj
    refine ⟨j, hj, h1, ?_⟩
    rw [S.did j hj x h1 _ h2]; exact h2
  refine ⟨S.len, fun x hx => ?_, fun x hx y hy e => ?_, fun y hy => ?_⟩
  rotate_left 2
  · rcases List.mem_append.mp hy with h | h
    · obtain ⟨x, hx, e⟩ := D.sur y h
      exact ⟨x, List.mem_append_left _ hx, by rw [old x hx]; exact e⟩
    · obtain ⟨j, hj, e⟩ := List.getElem_of_mem h
      have hpl := prv_lt hj
      have hp : patch[prv patch.length j]? = some patch[prv patch.length j] := List.getElem?_eq_getElem hpl
      exact ⟨patch[prv patch.length j], List.mem_append_right _ (List.getElem_mem _), S.did j hj _ hp y (by rw [List.getElem?_eq_getElem hj, e])⟩
  · rcases List.mem_append.mp hx with h | h
    · rw [old x h]; exact List.mem_append_left _ (D.into x h)
    · obtain ⟨j, _, _, h2⟩ := new x h
      exact List.mem_append_right _ (List.mem_of_getElem? h2)
  · rcases List.mem_append.mp hx with h | h <;> rcases List.mem_append.mp hy with g | g
    · rw [old x h, old y g] at e; exact D.inj x h y g e
    · obtain ⟨j, _, _, h2⟩ := new y g
      rw [old x h] at e
      exact absurd rfl (nd3 _ (D.into x h) _ (e ▸ List.mem_of_getElem? h2))
    · obtain ⟨j, _, _, h2⟩ := new x h
      rw [old y g] at e
      exact absurd rfl (nd3 _ (D.into y g) _ (e ▸ List.mem_of_getElem? h2))
    · obtain ⟨j, _, h1, h2⟩ := new x h
      obtain ⟨k, _, g1, g2⟩ := new y g
      rw [e] at h2
      have := nd_at nd2 h2 g2
      subst this
      rw [h1] at g1
      exact Option.some.inj g1
structure Mated (n : Nat) (ms : List (Option Int)) : Prop where
  len : ms.length = n
  ok : ∀ (h : Nat) (m : Int), ms[h]? = some (some m) → 0 ≤ m ∧ m < n ∧ m ≠ h ∧ ms[m.toNat]? = some (some (h : Int))
theorem Mated.start (n : Nat) : Mated n (List.replicate n none) := ⟨List.length_replicate, fun h m e => by
  rw [List.getElem?_replicate] at e
  split at e
  · cases e
  · cases e⟩
structure SkinOk (on : List Int) (ms : List (Option Int)) : Prop where
  pos : 1 ≤ on.length
  le : on.length ≤ 400
  len : ms.length = on.length
  rng : ∀ x ∈ on, 0 ≤ x ∧ x < on.length
  nd : on.Nodup
  sur : ∀ y : Int, 0 ≤ y → y < on.length → y ∈ on
  ok : ∀ (h : Nat) (m : Int), ms[h]? = some (some m) → 0 ≤ m ∧ m < on.length ∧ m ≠ h ∧ ms[m.toNat]? = some (some (h : Int))
end Hs
set_option Elab.async false
set_option linter.all false
set_option maxRecDepth 100000
set_option maxHeartbeats 4000000
namespace Hs
open PySem L2
def But (b : Addr) (H H' : Hp) : Prop := ∀ c o, c ≠ b → H c = some o → H' c = some o
theorem But.refl (b : Addr) (H : Hp) : But b H H := fun _ _ _ h => h
theorem But.put {b p : Addr} {H H' : Hp} {o : HO} (h : But b H H') (hp : p = b ∨ H p = none) : But b H (upd H' p o) := fun c u hc q => by
  rw [upd_ne (fun z => by
    rcases hp with e | e
    · exact hc (z.trans e)
    · rw [z, e] at q; cases q)]
  exact h c u hc q
theorem But.free {b p : Addr} {H H' : Hp} (h : But b H H') (hp : H' p = none) : p = b ∨ H p = none := by
  by_cases e : p = b
  · exact .inl e
  · right
    cases q : H p with
    | none => rfl
    | some u => rw [h p u e q] at hp; cases hp
theorem But.new {b p : Addr} {H H' : Hp} {o : HO} (h : But b H H') (hp : H' p = none) : But b H (upd H' p o) := h.put (h.free hp)
theorem But.one {b : Addr} {H H' H2 : Hp} (h : But b H H') (o : Only1 b H' H2) : But b H H2 := fun c u hc q => (o c hc).trans (h c u hc q)
theorem up {H : Hp} {p a : Addr} {o u : HO} (hp : H p = none) (h : H a = some u) : upd H p o a = some u := by rw [upd_ne (ne_of_none h hp)]; exact h
theorem rep_int (k : Nat) (z : Int) : (List.replicate k [V.int z]).flatten = (List.replicate k z).map V.int := by
  induction k with
  | zero => rfl
  | succ k ih => rw [List.replicate_succ, List.flatten_cons, ih]; rfl
theorem ix_nat {n : Nat} {x : Int} (h0 : 0 ≤ x) (h : x < n) : ixN n x = some x.toNat := by
  unfold ixN; rw [if_pos h0, if_pos h]
theorem set_mV (l : List (Option Int)) (j : Nat) (y : Option Int) : (l.map mV).set j (mV y) = (l.set j y).map mV := by rw [List.map_set]
theorem ints_to (n : Nat) : intsTo 0 n = ((List.range n).map fun i : Nat => (i : Int)).map V.int := by
  unfold intsTo
  rw [List.map_map]
  exact List.map_congr_left fun i _ => by show V.int (0 + (i : Int)) = V.int (i : Int); rw [Int.zero_add]
end Hs
set_option Elab.async false
set_option linter.all false
set_option maxRecDepth 100000
set_option maxHeartbeats 4000000
namespace L2
open PySem PySem.Spec PyProof.Rows
section
variable {prog : Program} {w : World} {A : Around} {E : Value → Shared → Prop} {s : Shared}
theorem tup_cat0 {t b : Addr} {vs ws : List Value} {Q : Value → Shared → Prop} (ht : IsTup s.heap t vs.toArray) (hb : IsTup s.heap b ws.toArray) (hv : vs = []) (h1 : Q (.ref b) s) : wpAny (model prog w) A (binaryOp .Add (.ref t) (.ref b)) Q E s := by
  obtain ⟨⟨cls, dd, data, sl⟩, ho, hc, n, hd⟩ := id ht
  obtain ⟨⟨cls2, dd2, data2, sl2⟩, ho2, hc2, n2, hd2⟩ := id hb
  simp only at hc hd hc2 hd2
  subst hc hd hc2 hd2
  exact concat_meets ⟨_, ho, rfl⟩ ⟨_, ho2, rfl⟩ noFill_tuple_add seq_tuple_add PySem.F.slot_tuple_add PySem.F.entry_tuple_add (PySem.F.args_tuple_add_2 _ _)
    (tuple_addW0 t b vs.toArray ws.toArray n n2 dd dd2 sl sl2 (by simp [hv])) ⟨ho, ho2, h1⟩
end
section
variable {X : Cx}
def rCatW (K : PySem.W.Frag) : R2 := fun x y H Q => ∃ a b xs ys, x = .ref a ∧ y = .ref b ∧ SqT K H a xs ∧ SqT K H b ys ∧ xs.length + ys.length ≤ sizeLine ∧ ∀ p H', Same H H' → SqT K H' p (xs ++ ys) → Q (.ref p) H'
theorem op_catW : OpR X (binaryOp .Add) (rCatW X.K) := by
  intro pins s σ H x y v u Q I rx ry h
  obtain ⟨a, b, xs, ys, rfl, rfl, ha, hb, hz, q⟩ := h
  by_cases hx : xs = []
  · subst hx
    cases rx
    cases ry
    obtain ⟨its, r1, p1, _⟩ := I.tuple ha
    obtain ⟨its2, r2, p2, _⟩ := I.tuple hb
    exact tup_cat0 p1 p2 (r1.nil_iff.mpr rfl) ⟨.ref b, H, I, rfl, q b H (Same.refl H) hb⟩
  · refine op_catT pins s σ H _ _ v u Q I rx ry ⟨a, b, xs, ys, rfl, rfl, ha, hb, hx, hz, fun e => ?_, fun _ p hp => q p _ (fun b u z => by rw [upd_ne (ne_of_none z hp)]; exact z) (SqT.of upd_same)⟩
    subst e
    exact q a H (Same.refl H) (by rw [List.append_nil]; exact ha)
variable {K : PySem.W.Frag}
end
end L2
set_option Elab.async false
set_option linter.all false
set_option maxRecDepth 100000
set_option maxHeartbeats 4000000
namespace L2
open PySem PySem.Spec PyProof.Rows
mutual
theorem Dp.same {K : PySem.W.Frag} {H H' : Hp} (s : Same H H') : ∀ (d : PyData) (v : V), Dp K H v d → Dp K H' v d
  | .none, _, h => by cases h; exact .non
  | .bool b, _, h => by cases h; exact .bl b
  | .int i, _, h => by cases h; exact .int i
  | .str x, _, h => by cases h; exact .str x
  | .list ds, _, h => by
    cases h with
    | lst hs ha => exact .lst (s.seq hs) (DpAll.same s ds _ ha)
  | .tuple ds, _, h => by
    cases h with
    | tup hs ha =>
      refine .tup ?_ (DpAll.same s ds _ ha)
      rcases hs with (h | ⟨o, h⟩) | h
      · exact .inl (.inl (s _ _ h))
      · exact .inl (.inr ⟨o, s _ _ h⟩)
      · exact .inr h
  | .dict _, _, h => by cases h
theorem DpAll.same {K : PySem.W.Frag} {H H' : Hp} (s : Same H H') : ∀ (ds : List PyData) (vs : List V), DpAll K H vs ds → DpAll K H' vs ds
  | [], _, h => by cases h; exact .nil
  | d :: ds, _, h => by
    cases h with
    | cons h1 h2 => exact .cons (Dp.same s d _ h1) (DpAll.same s ds _ h2)
end
section
variable {K : PySem.W.Frag} {H H' : Hp}
theorem DpAll.len : ∀ {vs : List V} {ds : List PyData}, DpAll K H vs ds → vs.length = ds.length
  | _, _, .nil => rfl
  | _, _, .cons _ t => by rw [List.length_cons, List.length_cons, DpAll.len t]
theorem DpAll.get : ∀ {vs : List V} {ds : List PyData} {i : Nat} {v : V}, DpAll K H vs ds → vs[i]? = some v → ∃ d, ds[i]? = some d ∧ Dp K H v d
  | _, _, _, _, .nil, e => by simp at e
  | _, _, 0, _, .cons r _, e => by simp at e; subst e; exact ⟨_, rfl, r⟩
  | _, _, i + 1, v, .cons _ t, e => by
    obtain ⟨d, h1, h2⟩ := DpAll.get (i := i) (v := v) t (by simpa using e)
    exact ⟨d, by simpa using h1, h2⟩
theorem DpAll.take : ∀ {vs : List V} {ds : List PyData} (n : Nat), DpAll K H vs ds → DpAll K H (vs.take n) (ds.take n)
  | _, _, 0, _ => .nil
  | _, _, _ + 1, .nil => .nil
  | _, _, n + 1, .cons r t => .cons r (DpAll.take n t)
theorem DpAll.drop : ∀ {vs : List V} {ds : List PyData} (n : Nat), DpAll K H vs ds → DpAll K H (vs.drop n) (ds.drop n)
  | _, _, 0, r => r
  | _, _, _ + 1, .nil => .nil
  | _, _, n + 1, .cons _ t => DpAll.drop n t
theorem DpAll.app : ∀ {vs ws : List V} {ds es : List PyData}, DpAll K H vs ds → DpAll K H ws es → DpAll K H (vs ++ ws) (ds ++ es)
  | _, _, _, _, .nil, s => s
  | _, _, _, _, .cons r t, s => .cons r (DpAll.app t s)
def kdD : PyData → Kd
  | .none => .non | .bool _ => .bool | .int _ => .int | .str _ => .str | .list _ => .lst | .tuple _ => .tup | .dict _ => .non
theorem Dp.kind {v : V} {d : PyData} (h : Dp K H v d) : KindV K H v (kdD d) := by
  cases h with
  | non => rfl
  | bl _ => rfl
  | int _ => rfl
  | str _ => rfl
  | lst hs _ => exact .inr ⟨rfl, _, hs⟩
  | tup hs _ => exact .inl ⟨rfl, _, hs⟩
end
mutual
def wd : PyData → Nat
  | .tuple ds => max ds.length (wdAll ds)
  | .list ds => max ds.length (wdAll ds)
  | _ => 0
def wdAll : List PyData → Nat
  | [] => 0
  | d :: r => max (wd d) (wdAll r)
end
structure Gd (k : Nat) (d : PyData) : Prop where
  lay : d.canLay0 = true
  dp : d.depth ≤ k
  wide : wd d ≤ 400 + k
theorem Gd.mono {j k : Nat} {d : PyData} (g : Gd j d) (h : j ≤ k) : Gd k d := ⟨g.lay, Nat.le_trans g.dp h, Nat.le_trans g.wide (by omega)⟩
def GdA (k : Nat) (ds : List PyData) : Prop := ∀ d ∈ ds, Gd k d
theorem gdA_lay {k : Nat} : ∀ {ds : List PyData}, GdA k ds → PyData.canLayAll0 ds = true
  | [], _ => by simp [PyData.canLayAll0]
  | d :: r, g => by
    rw [PyData.canLayAll0, (g d (by simp)).lay, gdA_lay (fun x hx => g x (by simp [hx]))]; rfl
theorem gdA_dp {k : Nat} : ∀ {ds : List PyData}, GdA k ds → PyData.depthAll ds ≤ k
  | [], _ => by simp [PyData.depthAll]
  | d :: r, g => by
    have h1 := (g d (by simp)).dp
    have h2 := gdA_dp (k := k) (ds := r) (fun x hx => g x (by simp [hx]))
    rw [PyData.depthAll]; omega
theorem gdA_wd {k : Nat} : ∀ {ds : List PyData}, GdA k ds → wdAll ds ≤ 400 + k
  | [], _ => by simp [wdAll]
  | d :: r, g => by
    have h1 := (g d (by simp)).wide
    have h2 := gdA_wd (k := k) (ds := r) (fun x hx => g x (by simp [hx]))
    rw [wdAll]; omega
theorem Gd.tup {k : Nat} {ds : List PyData} (g : GdA k ds) (h : ds.length ≤ 401 + k) : Gd (k + 1) (.tuple ds) :=
  ⟨by rw [PyData.canLay0]; exact gdA_lay g, by have := gdA_dp g; rw [PyData.depth]; omega, by have := gdA_wd g; rw [wd]; omega⟩
theorem Gd.lst {k : Nat} {ds : List PyData} (g : GdA k ds) (h : ds.length ≤ 401 + k) : Gd (k + 1) (.list ds) :=
  ⟨by rw [PyData.canLay0]; exact gdA_lay g, by have := gdA_dp g; rw [PyData.depth]; omega, by have := gdA_wd g; rw [wd]; omega⟩
theorem lay_all : ∀ {ds : List PyData}, PyData.canLayAll0 ds = true → ∀ d ∈ ds, d.canLay0 = true
  | d :: r, h, x, hx => by
    rw [PyData.canLayAll0, Bool.and_eq_true] at h
    rcases List.mem_cons.mp hx with rfl | hx
    · exact h.1
    · exact lay_all h.2 x hx
theorem dp_all : ∀ {ds : List PyData}, ∀ d ∈ ds, d.depth ≤ PyData.depthAll ds
  | d :: r, x, hx => by
    rw [PyData.depthAll]
    rcases List.mem_cons.mp hx with rfl | hx
    · omega
    · have := dp_all x hx; omega
theorem wd_all : ∀ {ds : List PyData}, ∀ d ∈ ds, wd d ≤ wdAll ds
  | d :: r, x, hx => by
    rw [wdAll]
    rcases List.mem_cons.mp hx with rfl | hx
    · omega
    · have := wd_all x hx; omega
theorem Gd.parts {k : Nat} {ds : List PyData} (g : Gd k (.tuple ds)) : GdA k ds ∧ ds.length ≤ 400 + k := by
  obtain ⟨h1, h2, h3⟩ := g
  rw [PyData.canLay0] at h1
  rw [PyData.depth] at h2
  rw [wd] at h3
  refine ⟨fun d hd => ⟨lay_all h1 d hd, ?_, ?_⟩, by omega⟩
  · have := dp_all d hd; omega
  · have := wd_all d hd; omega
theorem Gd.shaped {k : Nat} {d : PyData} (g : Gd k d) (h : k ≤ 64) : SeqAt.shaped d = true := by
  unfold SeqAt.shaped
  rw [Bool.and_eq_true]
  exact ⟨g.lay, decide_eq_true (Nat.le_trans g.dp h)⟩
theorem same_put {H : Hp} {p : Addr} (h : H p = none) (o : HO) : Same H (upd H p o) := fun b u q => by rw [upd_ne (ne_of_none q h)]; exact q
section
variable {K : PySem.W.Frag}
end
theorem PE.by {X : Cx} {e : Expr} {t u : TE} (h : PE X e t) (i : ∀ σ H Q, u σ H Q → t σ H Q) : PE X e u := fun pins s σ H Q I q => h pins s σ H Q I (i σ H Q q)
theorem PA.by {X : Cx} {e : List Expr} {t u : TA} (h : PA X e t) (i : ∀ σ H Q, u σ H Q → t σ H Q) : PA X e u := fun pos pins s σ H Q I q => h pos pins s σ H Q I (i σ H Q q)
theorem PS.by {X : Cx} {e : Stmt} {t u : TS} (h : PS X e t) (i : ∀ D σ H, u D σ H → t D σ H) : PS X e u := fun pins s σ H D I q => h pins s σ H D I (i D σ H q)
end L2
set_option Elab.async false
set_option maxRecDepth 20000
namespace Hs
open PySem PySem.Spec PyProof.Rows L2
structure Exo (h : Heap) (e : Addr) (cls : Value) (od : Option Addr) (vs : Array Value) : Prop where
  here : ∃ sl, h.get? e = some ⟨cls, od, .fields vs, sl⟩
  ctx : vs[2]? = some .none
def Tra (h : Heap) (e : Addr) (vs : Array Value) : Prop :=
  vs[1]? = some .none ∨ ∃ T oT ts, vs[1]? = some (.ref T) ∧ T ≠ e ∧ h.get? T = some oT ∧ oT.data = .fields ts ∧ ts[3]? = some .none
theorem arr_same {a : Array Value} {i : Nat} {x : Value} (e : a[i]? = some x) : a.setIfInBounds i x = a := by
  apply Array.ext_getElem?
  intro j
  rw [Array.getElem?_setIfInBounds]
  split
  · rename_i hij; subst hij
    rw [e]
    obtain ⟨hl, _⟩ := Array.getElem?_eq_some_iff.mp e
    simp [hl]
  · rfl
theorem obj_same {o : Obj} {ts : Array Value} {i : Nat} {x : Value} (d : o.data = .fields ts) (e : ts[i]? = some x) : o.mapFields (·.setIfInBounds i x) = o := by
  obtain ⟨c, dd, dt, sl⟩ := o
  have d : dt = .fields ts := d
  subst d
  show (⟨c, dd, .fields (ts.setIfInBounds i x), sl⟩ : Obj) = _
  rw [arr_same e]
theorem hupd_same {h : Heap} {T : Addr} {o : Obj} {f : Obj → Obj} (e : h.get? T = some o) (hf : f o = o) (b : Addr) : (h.update T f).get? b = h.get? b := by
  by_cases q : b = T
  · subst q
    rw [Heap.get?_update_self f e (by rw [hf]; exact (Heap.get?_some_iff.mp e).2), hf, e]
  · exact Heap.get?_update_other _ _ (Ne.symm q)
structure Noted (fs : List Addr) (e : Addr) (cls : Value) (od : Option Addr) (h h' : Heap) : Prop where
  keep : ∀ b o, b ≠ e → b ∉ fs → h.get? b = some o → h'.get? b = some o
  slot : ∀ b o, b ∈ fs → h.get? b = some o → ∃ sl, h'.get? b = some { o with slots := sl }
  exo : ∃ vs, Exo h' e cls od vs ∧ Tra h' e vs
section
variable {M : Model} {A : Around} {E : Value → Shared → Prop} {s : Shared}
theorem entry_land {base : Heap} {env : Env} {outer : List Env} {L e : Addr} {cls head : Value} {od : Option Addr} {vs : Array Value} {hn : Bool} {Q : Unit → Shared → Prop}
    (hfr : A.frames = some (env :: outer)) (hl : s.heap.FunFrames base (env :: outer)) (hf : env.frame = some L) (x : Exo s.heap e cls od vs)
    (h : ∀ h', Noted (frs (env :: outer)) e cls od s.heap h' → Q () { s with heap := h' }) :
    wpAny M A (do let a ← frameOf env; let pl ← entryPlaceOf L hn; let b ← EntryCells.newEntry head a .none (rawInt L) .none pl; setField (.ref e) 1 b)
      (fun _ s' => wpAny M A (setFlight (.ref e) none) Q E s') E s := by
  obtain ⟨⟨sl, he⟩, hc⟩ := x
  have hsz : 2 < vs.size := (Array.getElem?_eq_some_iff.mp hc).1
  have nfr : e ∉ frs (env :: outer) := fun hm => by
    obtain ⟨_, o, ho, hnf⟩ := hl.mem hm
    rw [he] at ho; cases ho
    exact hnf vs rfl
  refine wpAny_bind (wpAny_frameOf_fun hfr hl hf fun g hg => ?_)
  refine wpAny_bind (wpAny_entryPlaceOf fun pl hpl => ?_)
  unfold EntryCells.newEntry newFields
  refine wpAny_bind (wpAny_newObj_type ?_ (hpl.sizeOk5 _ _ _ _ _))
  generalize hnt : ([head, .ref L, .none, rawInt L, .none] ++ (if pl.isEmpty then List.replicate 6 Value.none else pl)).toArray = nt
  have nt3 : 3 < nt.size := by rw [← hnt]; simp only [List.size_toArray, List.length_append, List.length_cons, List.length_nil] <;> omega
  have g1 : g.get? e = some ⟨cls, od, .fields vs, sl⟩ := (hg.2.1 e nfr).trans he
  have g2 := Heap.get?_push_of_some (h := g) { cls := .type "traceback", dict := none, data := .fields nt } g1
  refine wpAny_setField g2 rfl (Nat.lt_of_succ_lt hsz) ?_
  have ne : g.objs.size ≠ e := Nat.ne_of_gt (Heap.lt_size g1)
  have g3 := Heap.get?_update_self (Obj.mapFields (·.setIfInBounds 1 (Value.ref g.objs.size))) g2 rfl
  have t3 := (Heap.get?_update_other (g.push { cls := .type "traceback", dict := none, data := .fields nt }) (Obj.mapFields (·.setIfInBounds 1 (Value.ref g.objs.size))) (Ne.symm ne)).trans (Heap.get?_push_size g rfl)
  unfold setFlight
  have v1 : (vs.setIfInBounds 1 (Value.ref g.objs.size))[1]? = some (.ref g.objs.size) := by
    have z : 1 < vs.size := by omega
    simp [z]
  refine wpAny_bind (wpAny_field (i := 1) g3 (vs := vs.setIfInBounds 1 (.ref g.objs.size)) rfl v1 ?_)
  rw [if_pos (show (Value.ref g.objs.size != Value.none) = true from by simp)]
  refine wpAny_setField t3 rfl nt3 (h _ ?_)
  have same : ∀ b o, b ≠ e → g.get? b = some o → ((((g.push { cls := .type "traceback", dict := none, data := .fields nt }).update e (Obj.mapFields (·.setIfInBounds 1 (Value.ref g.objs.size)))).update g.objs.size (Obj.mapFields (·.setIfInBounds 3 ((none : Option Addr).elim Value.none fun f => rawInt f))))).get? b = some o := fun b o hb q => by
    rw [Heap.get?_update_other _ _ (Nat.ne_of_gt (Heap.lt_size q)), Heap.get?_update_other _ _ (Ne.symm hb)]
    exact Heap.get?_push_of_some _ q
  refine ⟨fun b o h1 h2 q => same b o h1 ((hg.2.1 b h2).trans q), fun b o h1 q => ?_, vs.setIfInBounds 1 (.ref g.objs.size), ⟨⟨sl, ?_⟩, ?_⟩, .inr ⟨g.objs.size, _, nt.setIfInBounds 3 .none, ?_, ne, Heap.get?_update_self _ t3 rfl, rfl, ?_⟩⟩
  · obtain ⟨z, hz⟩ := hg.2.2 b o q
    exact ⟨z, same b _ (fun k => nfr (k ▸ h1)) hz⟩
  · rw [Heap.get?_update_other _ _ ne]; exact g3
  · rw [Array.getElem?_setIfInBounds_ne (by decide)]; exact hc
  · exact v1
  · simp [nt3]
theorem note_land {base : Heap} {env : Env} {outer : List Env} {L e : Addr} {cls : Value} {od : Option Addr} {vs : Array Value} {Q : Unit → Shared → Prop}
    (hfr : A.frames = some (env :: outer)) (hl : s.heap.FunFrames base (env :: outer)) (hf : env.frame = some L) (x : Exo s.heap e cls od vs) (t : Tra s.heap e vs)
    (h : ∀ h', Noted (frs (env :: outer)) e cls od s.heap h' → Q () { s with heap := h' }) :
    wpAny M A (noteFrame (.ref e) env) (fun _ s' => wpAny M A (setFlight (.ref e) none) Q E s') E s := by
  obtain ⟨⟨sl, he⟩, hc⟩ := x
  unfold noteFrame
  simp only [hf]
  rcases t with h1 | ⟨T, oT, ts, h1, hTe, hT, hdT, h3⟩
  · refine wpAny_bind (wpAny_field he rfl h1 ?_)
    rw [if_neg (by decide)]
    exact entry_land hfr hl hf ⟨⟨sl, he⟩, hc⟩ h
  · refine wpAny_bind (wpAny_field he rfl h1 ?_)
    rw [if_pos (show (Value.ref T != Value.none) = true from by simp)]
    refine wpAny_bind (wpAny_field hT hdT h3 ?_)
    rw [if_neg (show ¬ ((Value.none == rawInt L) = true) from by simp [rawInt])]
    refine wpAny_bind (wpAny_setField hT hdT (Array.getElem?_eq_some_iff.mp h3).1 ?_)
    have sm := fun b => hupd_same hT (f := Obj.mapFields (·.setIfInBounds 3 Value.none)) (obj_same hdT h3) b
    refine entry_land (s := { s with heap := s.heap.update T (Obj.mapFields (·.setIfInBounds 3 Value.none)) }) hfr (hl.of_keeps fun b o q _ => ⟨o, (sm b).trans q, rfl⟩) hf ⟨⟨sl, (sm e).trans he⟩, hc⟩ fun h' n => ?_
    exact h h' ⟨fun b o h1 h2 q => n.keep b o h1 h2 ((sm b).trans q), fun b o h1 q => n.slot b o h1 ((sm b).trans q), n.exo⟩
theorem leave_land {base : Heap} {env : Env} {outer : List Env} {L e : Addr} {cls : Value} {od : Option Addr} {vs : Array Value} {Q : Unit → Shared → Prop}
    (hfr : A.frames = some (env :: outer)) (hl : s.heap.FunFrames base (env :: outer)) (hf : env.frame = some L) (x : Exo s.heap e cls od vs) (t : Tra s.heap e vs)
    (h : ∀ h', Noted (frs (env :: outer)) e cls od s.heap h' → Q () { s with heap := h' }) : wpAny M A (leaving env (.ref e)) Q E s := by
  unfold leaving
  exact wpAny_bind (note_land hfr hl hf x t h)
end
end Hs
set_option Elab.async false
set_option linter.all false
set_option maxRecDepth 100000
namespace Hs
open PySem PySem.Spec PyProof.Rows L2
def CXf (P : Program) (w : World) : CXT := fun outer H s E ev s' => ∃ e cls od H' vs, ev = .ref e ∧ s'.os = s.os ∧ AllBare s'.gens ∧ Un (frs outer) [] H H' s.heap s'.heap ∧ HOk P w H' s'.heap ∧
  s.heap.get? e = none ∧ H' e = none ∧ Exo s'.heap e cls od vs ∧ Tra s'.heap e vs ∧ E cls od H'
theorem cxf_no {P : Program} {w : World} {outer : List Env} {H : Hp} {s : Shared} {ev : Value} {s' : Shared} (h : CXf P w outer H s (fun _ _ _ => False) ev s') : False := by
  obtain ⟨_, _, _, _, _, _, _, _, _, _, _, _, _, _, q⟩ := h; exact q
theorem okX {P : Program} {w : World} {K : PySem.W.Frag} {mg : Str → Option Value} {base : Heap} {k : Nat} {f : Addr} {fd : FuncData} {ps : List Str} {sp : Sp} (F : FnOk P w K mg base CX0 k f fd ps sp) : FnOk P w K mg base (CXf P w) k f fd ps sp :=
  ⟨F.len, fun A outer s H args us vs Q E hr e0 hb hv hs => codeAny_mono (F.run A outer s H args us vs Q E hr e0 hb hv hs) fun r s' h => by
    cases r with
    | error e => exact False.elim h
    | ok fl => cases fl <;> exact h⟩
section
variable {X : Cx} {pins : List (Addr × Obj)} {σ : L2.St} {H H' : Hp} {s s' : Shared} {e : Addr} {cls : Value} {od : Option Addr}
structure Off (X : Cx) (pins : List (Addr × Obj)) (H : Hp) (e : Addr) : Prop where
  free : H e = none
  loc : e ≠ X.env.locals
  old : X.s_0.heap.get? e = none
  cell : ∀ x c, X.env.cells.lookup x = some c → c ≠ e
  pin : ∀ p ∈ X.pn ++ pins, p.1 ≠ e
theorem off_of (I : Inv X pins σ H s) (hx : X.ex = []) (n : s.heap.get? e = none) (hn : H' e = none) : Off X pins H' e := by
  refine ⟨hn, fun z => ?_, ?_, fun x c q z => ?_, fun p hp z => ?_⟩
  · obtain ⟨m, ⟨o, _, _, ho, _⟩, _⟩ := I.loc
    rw [← z, n] at ho; cases ho
  · cases q : X.s_0.heap.get? e with
    | none => rfl
    | some o =>
      obtain ⟨o', z⟩ := I.base.there e o q (by rw [hx]; simp)
      rw [n] at z; cases z
  · obtain ⟨v, o, ho, _⟩ := I.cell x c q
    rw [z, n] at ho; cases ho
  · have := (I.pin p hp).1
    rw [z, n] at this; cases this
theorem noted_inv {h' : Heap} (J : Inv X pins σ H s) (f : Off X pins H e) (n : Noted (frs X.stack) e cls od s.heap h') : Inv X pins σ H { s with heap := h' } := by
  have sne : ∀ b u, H b = some u → b ≠ e := fun b u q z => by rw [z, f.free] at q; cases q
  have snf : ∀ b u, H b = some u → b ∉ frs X.stack := fun b u q z => by rw [J.stkFree b z] at q; cases q
  have any : ∀ b o, b ≠ e → s.heap.get? b = some o → ∃ sl, h'.get? b = some { o with slots := sl } := fun b o hb q => by
    by_cases hf : b ∈ frs X.stack
    · exact n.slot b o hf q
    · exact ⟨o.slots, n.keep b o hb hf q⟩
  have cel : ∀ c v, c ≠ e → s.heap.IsCell c v → Heap.IsCell h' c v := fun c v hc ⟨o, ho, hd⟩ => by
    obtain ⟨sl, z⟩ := any c o hc ho
    exact ⟨_, z, hd⟩
  have old : ∀ b o, X.s_0.heap.get? b = some o → b ≠ e := fun b o q z => by rw [z, f.old] at q; cases q
  refine ⟨J.ok, J.os, J.bare, ⟨fun b o q z hb hx => ?_, fun b o q z hb hx => ?_, J.base.free, fun b o q hx => ?_, J.base.tups, J.base.frzs, J.base.tbls⟩, ?_, fun x c q => ?_, J.free, J.freeC, fun p hp => ?_, fun a o q => ?_, J.len⟩
  · refine n.keep b o (old b o q) (fun w => ?_) (J.base.keep b o q z hb hx)
    rcases List.mem_cons.mp (J.stkSub b w) with w | w
    · have h1 := Heap.lt_size q
      rw [w] at h1
      exact absurd (Nat.lt_of_lt_of_le h1 J.ok.above) (Nat.lt_irrefl _)
    · exact hb w
  · obtain ⟨sl, w⟩ := J.base.slot b o q z hb hx
    obtain ⟨sl', w'⟩ := any b _ (old b o q) w
    exact ⟨sl', w'⟩
  · obtain ⟨o', w⟩ := J.base.there b o q hx
    obtain ⟨sl', w'⟩ := any b _ (old b o q) w
    exact ⟨_, w'⟩
  · obtain ⟨m, ⟨o, es, ep, ho, hd, r⟩, hl⟩ := J.loc
    obtain ⟨sl, z⟩ := any _ o (Ne.symm f.loc) ho
    refine ⟨m, ⟨_, es, ep, z, hd, r⟩, fun i x v h1 h2 h3 => ?_⟩
    obtain ⟨u, ru, lk⟩ := hl i x v h1 h2 h3
    refine ⟨u, ru, ?_⟩
    rcases lk with lk | ⟨k, c, hc, ic⟩
    · exact .inl lk
    · exact .inr ⟨k, c, hc, cel c _ (f.cell x c hc) ic⟩
  · obtain ⟨v, ic⟩ := J.cell x c q
    exact ⟨v, cel c v (f.cell x c q) ic⟩
  · obtain ⟨p1, p2, p3, p4, p5⟩ := J.pin p hp
    refine ⟨n.keep _ _ (f.pin p hp) (fun w => ?_) p1, p2, p3, p4, p5⟩
    rcases List.mem_cons.mp (J.stkSub _ w) with w | w
    · exact p3 w
    · exact p4 w
  · refine (J.hok a o q).stay (fun b u hb r => ?_) (fun _ z => z) fun _ _ z => z
    rcases hb with rfl | hb
    · exact n.keep b u (sne b _ q) (snf b _ q) r
    · exact n.keep b u (sne b _ hb) (snf b _ hb) r
theorem cxf_inv {E : XK} {ev : Value} (I : Inv X pins σ H s) (hx : X.ex = []) (c : CXf X.prog X.w X.stack H s E ev s') :
    ∃ e cls od H' vs, ev = .ref e ∧ Inv X pins σ H' s' ∧ Off X pins H' e ∧ Exo s'.heap e cls od vs ∧ Tra s'.heap e vs ∧ E cls od H' := by
  obtain ⟨e, cls, od, H', vs, rfl, os, bare, un, hok, hlo, hn, x, t, q⟩ := c
  exact ⟨e, cls, od, H', vs, rfl, I.call' (ch := []) os un hok bare (fun b hb => absurd hb (by simp)), off_of I hx hlo hn, x, t, q⟩
def Good (X : Cx) (E : L2.St → XK) : Prop := ∀ (pins : List (Addr × Obj)) (σ : L2.St) (H : Hp) (s : Shared) (ev : Value) (s' : Shared), Inv X pins σ H s → CXf X.prog X.w X.stack H s (E σ) ev s' → X.xe ev s'
end
theorem good_fn {P : Program} {w : World} {K : PySem.W.Frag} {mg : Str → Option Value} {base : Heap} {N : List Str} {qual : Str} {scope : Scope} {f : Addr} {cd : Value} {A : Around} {outer : List Env} {s : Shared} {H : Hp} {E : XK} :
    Good (cxOf (CXf P w) P w K mg base N qual scope f cd A outer s H E) (fun _ => E) := by
  intro pins σ H1 s1 ev s2 I c
  obtain ⟨e, cls, od, H', vs, rfl, J, fp, x, t, q⟩ := cxf_inv I rfl c
  show wpAny _ _ (leaving _ (.ref e)) _ _ s2
  refine leave_land (base := base) J.ok.frames J.stack rfl x t fun h' n => ?_
  have J' := noted_inv J fp n
  obtain ⟨vs', x', t'⟩ := n.exo
  exact ⟨e, cls, od, H', vs', rfl, J'.os, J'.bare, J'.base, J'.hok, fp.old, fp.free, x', t', q⟩
structure FnX (P : Program) (w : World) (K : PySem.W.Frag) (mg : Str → Option Value) (base : Heap) (x : Str) (ps : List Str) (k : Nat) (sp : Sp) : Prop where
  ex : ∃ f fd, FnOk P w K mg base (CXf P w) k f fd ps sp ∧ Binds K fd ps [] ∧ PySem.W.keepIn K (.ref f) = true ∧ mg x = some (.ref f)
theorem fnX {P : Program} {w : World} {K : PySem.W.Frag} {mg : Str → Option Value} {base : Heap} {x : Str} {ps : List Str} {k : Nat} {sp : Sp} (F : Fn P w K mg base x ps k sp) : FnX P w K mg base x ps k sp :=
  let ⟨f, fd, G, r⟩ := F.ex; ⟨f, fd, okX G, r⟩
section
variable {X : Cx} {x : Str} {ps : List Str} {k j : Nat} {sp : Sp} {e : Expr} {es : List Expr} {t : TA} {p pos : Pos} {E : L2.St → XK}
def tCallX (sp : Sp) (E : L2.St → XK) (t : TA) : TE := fun σ H Q => t σ H fun vs H1 => sp vs H1 Q (E σ)
theorem pe_callX (F : FnX X.prog X.w X.K X.mg X.base x ps k sp) (hr : Room j X.A) (hk : k ≤ j) (G : Good X E) (ha : PA X (e :: es) t) (hg : Gl X x := by rfl) (hdb : (x == ("__debug__" : Str)) = false := by decide)
    (he : starEach (e :: es) X.env = (false, eval e X.env) :: starEach es X.env := by rfl) (hpl : (backTo pos (starEach es X.env)).any (·.1) = false := by rfl) : PE X (.Call (.Name x p) (e :: es) [] pos) (tCallX sp E t) := by
  obtain ⟨f, fd, FO, b, kp, m⟩ := F.ex
  intro pins s σ H Q I h
  refine wpAny_Call_Name_kw (ld_glob I hg m ?_ hdb)
  refine PySem.W.callWith_K (h₀ := X.base) I.ok.mod.kin kp (thn (ha pos pins s σ H _ I h) fun us s1 ⟨vs, H1, I1, r, q⟩ => ⟨I1.kIn, ?_⟩) he hpl
  have hl : us.length = ps.length := by rw [← r.length]; exact FO.len _ _ _ _ q
  have hb := b s1 us I1.kIn (by rw [List.append_nil]; exact hl)
  rw [List.append_nil] at hb
  refine wpAny_call (codeAny_mono (FO.run X.A X.stack s1 H1 ⟨us, []⟩ us vs Q (E σ) (hr.mono hk) I1.env0 hb r q) fun r s' hq => ?_)
  cases r with
  | error e => exact G pins σ H1 s1 e s' I1 hq
  | ok fl =>
    cases fl with
    | ret u => exact I1.after hq
    | next => exact False.elim hq
    | brk => exact False.elim hq
    | cont => exact False.elim hq
theorem pe_callXn (F : FnX X.prog X.w X.K X.mg X.base x ps k sp) (hr : Room j X.A) (hk : k ≤ j) (ha : PA X (e :: es) t) (hg : Gl X x := by rfl) (hdb : (x == ("__debug__" : Str)) = false := by decide)
    (he : starEach (e :: es) X.env = (false, eval e X.env) :: starEach es X.env := by rfl) (hpl : (backTo pos (starEach es X.env)).any (·.1) = false := by rfl) : PE X (.Call (.Name x p) (e :: es) [] pos) (tCallX sp (fun _ => E0) t) :=
  pe_callX F hr hk (fun _ _ _ _ _ _ _ h => (cxf_no h).elim) ha hg hdb he hpl
end
theorem FunX.ok {P : Program} {w : World} {K : PySem.W.Frag} {mg : Str → Option Value} {base : Heap} {x qual : Str} {st : Stmt} {f : Addr} {fd : FuncData} {N ps : List Str} {k : Nat} {sp : Sp} (F : Fun K x qual st f fd) (S : FnScope N ps (defScope st)) (len : ∀ vs H Q E, sp vs H Q E → vs.length = ps.length)
    (hbody : ∀ (cdv : Value) (A : Around) (outer : List Env) (s : Shared) (H : Hp) (vs : List V) (Q : VK) (E : XK), Room k (A.deeper (envOfC qual (defScope st) s.heap.objs.size f cdv)) → sp vs H Q E →
      Good (cxOf (CXf P w) P w K mg base N qual (defScope st) f cdv A outer s H E) (fun _ => E) →
      ∃ t, PSs (cxOf (CXf P w) P w K mg base N qual (defScope st) f cdv A outer s H E) (defBody st) t ∧ t { nx := fun _ H' => Q .non H', rt := Q } (start N vs) H) : FnOk P w K mg base (CXf P w) (k + 1) f fd ps sp := by
  obtain ⟨oc, od, kV, doc, pm, an, cdv, ct, osl, rfl, lk, hcd⟩ := F.ex
  exact L2.fn_of lk hcd S len fun A outer s H vs Q E hr hsp => hbody cdv A outer s H vs Q E hr hsp good_fn
end Hs
set_option Elab.async false
set_option linter.all false
set_option maxRecDepth 100000
namespace L2
open PySem PySem.Spec PyProof.Rows
section
variable {X : Cx}
def PJ (X : Cx) (es : List Expr) (t : St → Hp → (Hp → Prop) → Prop) : Prop := ∀ (n : Nat) (out : Str) (pins : List (Addr × Obj)) (s : Shared) (σ : St) (H : Hp) (Q : Hp → Prop), n + es.length ≤ 100 → out.length ≤ n * 2000 → Inv X pins σ H s → t σ H Q →
  wpAny (model X.prog X.w) X.A (joinParts out (evalEach es X.env)) (fun v s' => ∃ txt tk H', v = .str txt tk ∧ Inv X pins σ H' s' ∧ Q H') X.xe s
theorem line_of {n m k : Nat} (h : n + m ≤ 100) (e : k ≤ n * 2000) : k ≤ sizeLine := by
  rw [sizeLine_eq]; omega
theorem pj_nil : PJ X [] (fun σ H Q => Q H) := fun n out pins s σ H Q hn ho I h =>
  joinParts_nil ⟨out, _, H, rfl, I.tok _, h⟩ (line_of (m := 0) (by simpa using hn) ho)
theorem pj_raw {e : Expr} {es : List Expr} {te : TE} {t : St → Hp → (Hp → Prop) → Prop} (he : PE X e te) (r : PJ X es t) : PJ X (e :: es) (fun σ H Q => te σ H fun x H1 => ∃ c, x = .str c ∧ c.length ≤ 2000 ∧ t σ H1 Q) := fun n out pins s σ H Q hn ho I h => by
  have hn' : n + 1 + es.length ≤ 100 := by have : (e :: es).length = es.length + 1 := rfl; omega
  show wpAny _ _ (joinParts out (eval e X.env :: evalEach es X.env)) _ _ s
  refine joinParts_cons (thn (he pins s σ H _ I h) fun v s1 ⟨x, H1, I1, rv, c, hx, hc, q⟩ => ?_)
  subst hx
  obtain ⟨tk, rfl⟩ := rv
  have hl : (out ++ c).length ≤ (n + 1) * 2000 := by rw [strLen_append]; omega
  exact ⟨line_of hn' hl, r (n + 1) (out ++ c) pins s1 σ H1 Q hn' hl I1 q⟩
theorem pj_int {e : Expr} {es : List Expr} {te : TE} {t : St → Hp → (Hp → Prop) → Prop} {pos : Pos} (he : PE X e te) (r : PJ X es t) : PJ X (.FormattedValue e (-1) none pos :: es) (fun σ H Q => te σ H fun x H1 => ∃ i : Int, x = .int i ∧ i.natAbs.log2 < 1920 ∧ t σ H1 Q) := fun n out pins s σ H Q hn ho I h => by
  have hn' : n + 1 + es.length ≤ 100 := by have : (Expr.FormattedValue e (-1) none pos :: es).length = es.length + 1 := rfl; omega
  show wpAny _ _ (joinParts out (eval (.FormattedValue e (-1) none pos) X.env :: evalEach es X.env)) _ _ s
  refine joinParts_cons (FormattedValue_plain (thn (he pins s σ H _ I h) fun v s1 ⟨x, H1, I1, rv, i, hx, hc, q⟩ => ?_))
  subst hx
  obtain ⟨tk, rfl⟩ := rv
  have e1 := int_text_length_le (k := 1920) (by decide) hc
  have hl : (out ++ Str.ofString (toString i)).length ≤ (n + 1) * 2000 := by rw [strLen_append, PySem.ofString_length]; omega
  exact formatField_int_small hc ⟨line_of hn' hl, r (n + 1) _ pins _ σ H1 Q hn' hl (I1.tok _) q⟩
def tFstr (t : St → Hp → (Hp → Prop) → Prop) : TE := fun σ H Q => t σ H fun H1 => ∀ txt, Q (.str txt) H1
theorem pe_fstr {v1 v2 : Expr} {vs : List Expr} {pos : Pos} {t : St → Hp → (Hp → Prop) → Prop} (h : PJ X (v1 :: v2 :: vs) t) (hl : (v1 :: v2 :: vs).length ≤ 100 := by decide) : PE X (.JoinedStr (v1 :: v2 :: vs) pos) (tFstr t) := fun pins s σ H Q I hq =>
  JoinedStr_many (thn (h 0 Str.empty pins s σ H _ (by simpa using hl) (by decide) I hq) fun v s' ⟨txt, tk, H', e, I', q⟩ => ⟨.str txt, H', I', ⟨tk, e⟩, q txt⟩)
end
end L2
namespace Hs
open PySem PySem.Spec PyProof.Rows L2
theorem objOk_there {P : Program} {w : World} {H : Hp} {h : Heap} {a : Addr} {o : HO} (x : ObjOk P w H h a o) (n : h.get? a = none) : False := by
  cases o with
  | lst xs => obtain ⟨_, _, _, _, e⟩ := x; rw [n] at e; cases e
  | tup xs => obtain ⟨_, _, _, _, e, _⟩ := x; rw [n] at e; cases e
  | dK kvs => obtain ⟨_, _, _, _, o, _, _, e, _⟩ := x; rw [n] at e; cases e
  | dT kvs => obtain ⟨_, _, _, _, o, _, _, e, _⟩ := x; rw [n] at e; cases e
  | set S k => obtain ⟨o, _, _, _, e, _⟩ := x; rw [n] at e; cases e
  | ins C dx fs => obtain ⟨_, _, _, e, _⟩ := x; rw [n] at e; cases e
  | own y => obtain ⟨_, e⟩ := x; rw [n] at e; cases e
  | xd fs => obtain ⟨_, ⟨_, _, _, e, _⟩, _⟩ := x; rw [n] at e; cases e
  | rng lo hi => obtain ⟨_, _, _, e⟩ := x; rw [n] at e; cases e
  | frz ob u => obtain ⟨e, _⟩ := x; rw [n] at e; cases e
  | tbl ps => have e : h.get? a = some _ := x; rw [n] at e; cases e
  | met f y => have e : h.get? a = some _ := x; rw [n] at e; cases e
  | ext φ => obtain ⟨_, ⟨_, e⟩, _⟩ := x; rw [n] at e; cases e
abbrev vbm : List Value := [.type "ValueError", .type "Exception", .type "BaseException", .type "object"]
abbrev OwnE (K : PySem.W.Frag) (C : Addr) : Prop := PySem.W.excIn K C vbm "ValueError.__new__" = true
theorem own_obj {K : PySem.W.Frag} {h : Heap} {C : Addr} {x : Str} {mg : Str → Option Value} (kin : K.In h) (own : OwnE K C) (m : mg x = some (.ref C)) : OwnCls x C vbm "ValueError.__new__" mg h := by
  constructor
  · exact m
  have own : PySem.W.excIn K C vbm "ValueError.__new__" = true := own
  unfold PySem.W.excIn at own
  split at own
  next dct cdt slt look =>
    split at own
    next C2 tl s0 s1 s2 s3 nw s5 mroEq slEq =>
      rw [Bool.and_eq_true, Bool.and_eq_true, Bool.and_eq_true, Bool.and_eq_true, Bool.and_eq_true] at own
      obtain ⟨⟨⟨⟨⟨e1, e2⟩, e3⟩, e4⟩, e5⟩, e6⟩ := own
      have e1 : C2 = C := beq_iff_eq.mp e1
      have e2 : nw = "ValueError.__new__" := beq_iff_eq.mp e2
      have e6 := beq_iff_eq.mp e6
      subst e1 e2
      obtain ⟨nm, bs, mro, ns, qn, hdd, sn, sub, ab, col, del⟩ := cdt
      have e3 : del = false := by simpa using e3
      have mroEq : mro = .ref C2 :: tl := mroEq
      subst e3 mroEq
      obtain rfl : slt = #[s0, s1, s2, s3, some (.builtin "ValueError.__new__"), s5] := by
        cases slt with
        | mk l => exact congrArg Array.mk slEq
      exact ⟨tl, ns, nm, qn, bs, hdd, sn, sub, ab, col, dct, s0, s1, s2, s3, s5, _, kin _ _ look, .of_isNs (PySem.W.isNs_of_in kin e5), PySem.W.nsMap_none_of_in kin e5 e6, PySem.W.tail_of_in kin e4⟩
    next => cases own
  next => cases own
section
variable {X : Cx} {E : L2.St → XK} {C : Addr} {x : Str} {np cpos pos : Pos} {a : Expr} {as : List Expr} {t : TA}
def tRaise (C : Addr) (E : L2.St → XK) (t : TA) : TS := fun _ σ H => t σ H fun vs H1 => vs.length ≤ 100 ∧ E σ (.ref C) none H1
theorem ps_raise (hc : X.calm = true) (own : OwnE X.K C) (hm : X.mg x = some (.ref C)) (G : Good X E) (ha : PA X (a :: as) t) (hg : Gl X x := by rfl) (hdb : (x == ("__debug__" : Str)) = false := by decide)
    (he : starEach (a :: as) X.env = (false, eval a X.env) :: starEach as X.env := by rfl) (hpl : (backTo cpos (starEach as X.env)).any (·.1) = false := by rfl) : PS X (.Raise (some (.Call (.Name x np) (a :: as) [] cpos)) none pos) (tRaise C E t) := by
  intro pins s σ H D I h
  have O := own_obj I.ok.mod.kin own hm
  obtain ⟨tl, N, nm, q, bs, hdct, sn, sub, ab, col, dd, k0, k1, k2, k3, k5, mN, hC, hN, hni, T⟩ := O.obj
  refine wpAny_Raise_call_subT (nm := nm) (q := q) (C := C) (N := N) (bs := bs) (bm := tl)
    (hdct := hdct) (sn := sn) (sub := sub) (ab := ab) (col := col)
    (dd := dd) (k0 := k0) (k1 := k1) (k2 := k2) (k3 := k3) (k5 := k5) PySem.F.excBase_ValueError (mN := mN) (T.hasType PySem.F.excBase_ValueError.hasBase) (I.ok.hd hc) (by rw [he]; show (false || (backTo cpos (starEach as X.env)).any (·.1)) = false; rw [hpl]; rfl) hni (ld_glob I hg hm ⟨rfl, ?_⟩ hdb)
  have hp := ha cpos pins s σ H _ I h
  rw [he] at hp ⊢
  refine Calls.evalArgs_plain (thn hp fun us s2 ⟨vs, H1, I1, r, hz, q⟩ => ⟨rfl, ?_, I1.bk _ _ hC, hN.keeps I1.bk, T.keeps I1.bk, fun h' e hm => ?_⟩)
  · show us.length ≤ sizeLine
    rw [← r.length, sizeLine_eq]; omega
  · obtain ⟨tt, het, htn, _⟩ := hm.there
    have hn : H1 e = none := by
      cases z : H1 e with
      | none => rfl
      | some u =>
        have lt := (I1.hok e u z)
        exact absurd hm.new (by
          intro w
          exact objOk_there lt w)
    exact G pins σ H1 s2 _ _ I1 ⟨e, .ref C, none, H1, _, rfl, rfl, I1.bare, Un.kept hm.keeps, I1.hok.kept hm.keeps, hm.new, hn, ⟨⟨_, het⟩, rfl⟩, .inl rfl, q⟩
end
end Hs
set_option Elab.async false
set_option linter.all false
set_option maxRecDepth 100000
namespace Hs
open PySem PySem.Spec PyProof.Rows L2
abbrev hdl (X : Cx) (e : Addr) (oe : Obj) : Cx := { X with A := X.A.mark (some (.ref e)), calm := false, pn := X.pn ++ [(e, oe)], xe := fun _ _ => False }
section
variable {X : Cx} {pins : List (Addr × Obj)} {σ : L2.St} {H : Hp} {s : Shared} {e : Addr} {oe : Obj} {cls : Value} {od : Option Addr}
end
section
variable {X : Cx} {E : L2.St → XK} {S : Addr} {x n : Str} {np hpos pos : Pos} {b0 : Stmt} {body suite : List Stmt} {tb : TS} {th : Addr → Obj → TS} {i : Nat}
end
end Hs
set_option Elab.async false
set_option linter.all false
set_option maxRecDepth 100000
namespace Hs
open PySem PySem.Spec PyProof.Rows L2
section
variable {prog : Program} {w : World} {A : Around} {E : Value → Shared → Prop} {s : Shared}
end
end Hs
set_option Elab.async false
set_option linter.all false
set_option maxRecDepth 100000
namespace L2
open PySem PySem.Spec PyProof.Rows Hs
section
variable {X : Cx}
end
end L2
set_option Elab.async false
set_option linter.all false
set_option maxRecDepth 100000
namespace Hs
open PySem PySem.Spec PySem.Calls PyProof.Rows PySem.W
section
variable {prog : Program} {w : World} {A : Around} {E : Value → Shared → Prop} {h : Heap} {g : Array GenState} {d : Drawn} {t : Nat} {os : OsState} {K : Frag} {a C : Addr} {o : Obj} {odo : Option Obj}
end
section
variable {K : Frag} {a C : Addr} {o : Obj} {odo : Option Obj}
end
end Hs
namespace Hs
open PySem PySem.Spec PyProof.Rows L2
section
variable {X : Cx} {e C : Addr} {oe : Obj} {b : Bool} {cv : V} {cu : Value}
end
section
variable {X : Cx} {x : Str} {k j : Nat} {sp : Addr → Obj → Hp → VK → Prop} {e : Addr} {oe : Obj} {ar : Expr} {t : TA} {p pos : Pos}
end
end Hs
set_option Elab.async false
set_option linter.all false
set_option maxRecDepth 100000
namespace L2
open PySem PySem.Spec PyProof.Rows PySem.SeqAt
section
variable {X : Cx}
end
end L2
set_option linter.all false
namespace Hs
abbrev InR (n : Nat) (x : Int) : Prop := 0 ≤ x ∧ x < n
inductive Trail (f : Int → Option Int) (h0 : Int) : Int → List Int → Prop
  | last {x : Int} : (f x = none ∨ f x = some h0) → Trail f h0 x [x]
  | step {x y : Int} {l : List Int} : f x = some y → y ≠ h0 → Trail f h0 y l → Trail f h0 x (x :: l)
def trl (f : Int → Option Int) (h0 : Int) : Nat → Int → List Int
  | 0, x => [x]
  | k + 1, x => x :: (match f x with
    | none => []
    | some y => if y = h0 then [] else trl f h0 k y)
def fstF (f : Int → Option Int) (h0 : Int) : Nat → Int → Int
  | 0, x => x
  | k + 1, x => match f x with
    | none => x
    | some y => if y = h0 then h0 else fstF f h0 k y
theorem trl_of {f : Int → Option Int} {h0 x : Int} {l : List Int} (t : Trail f h0 x l) : ∀ k, l.length ≤ k + 1 → trl f h0 k x = l := by
  induction t with
  | last h =>
    intro k _
    cases k with
    | zero => rfl
    | succ k =>
      unfold trl
      rcases h with h | h
      · rw [h]
      · rw [h]; simp
  | @step x y l h hy t ih =>
    intro k hk
    have hl : 1 ≤ l.length := by cases t <;> simp
    cases k with
    | zero => rw [List.length_cons] at hk; omega
    | succ k =>
      unfold trl
      rw [h]
      simp only [if_neg hy]
      rw [ih k (by simpa using hk)]
theorem fstF_of {f : Int → Option Int} {h0 x : Int} {l : List Int} (t : Trail f h0 x l) : ∀ k, l.length ≤ k → ∃ z ∈ l, (f z = none ∧ fstF f h0 k x = z) ∨ (f z = some h0 ∧ fstF f h0 k x = h0) := by
  induction t with
  | @last x h =>
    intro k hk
    cases k with
    | zero => simp at hk
    | succ k =>
      refine ⟨x, by simp, ?_⟩
      unfold fstF
      rcases h with h | h
      · exact .inl ⟨h, by rw [h]⟩
      · exact .inr ⟨h, by rw [h]; simp⟩
  | @step x y l h hy t ih =>
    intro k hk
    cases k with
    | zero => simp at hk
    | succ k =>
      obtain ⟨z, hz, q⟩ := ih k (by simpa using hk)
      refine ⟨z, List.mem_cons_of_mem _ hz, ?_⟩
      unfold fstF
      rw [h]
      simp only [if_neg hy]
      exact q
theorem Trail.head {f : Int → Option Int} {h0 x : Int} {l : List Int} (t : Trail f h0 x l) : ∃ r, l = x :: r := by
  cases t with
  | last h => exact ⟨[], rfl⟩
  | step h hy t => exact ⟨_, rfl⟩
theorem Trail.fin {f : Int → Option Int} {h0 x : Int} {l : List Int} (t : Trail f h0 x l) : ∃ z, l.getLast? = some z ∧ (f z = none ∨ f z = some h0) := by
  induction t with
  | @last x h => exact ⟨x, rfl, h⟩
  | @step x y l h hy t ih =>
    obtain ⟨z, e, q⟩ := ih
    obtain ⟨r, rfl⟩ := t.head
    exact ⟨z, by rw [List.getLast?_cons_cons]; exact e, q⟩
theorem Trail.all {f : Int → Option Int} {h0 x : Int} {l : List Int} (t : Trail f h0 x l) {P : Int → Prop} (h : P x) (st : ∀ a b, P a → f a = some b → P b) : ∀ z ∈ l, P z := by
  induction t with
  | @last x _ => intro z hz; rw [List.mem_singleton.mp hz]; exact h
  | @step x y l e hy t ih =>
    intro z hz
    rcases List.mem_cons.mp hz with rfl | hz
    · exact h
    · exact ih (st _ _ h e) z hz
theorem Trail.from {f : Int → Option Int} {h0 x : Int} {l : List Int} (t : Trail f h0 x l) : ∀ z ∈ l, z = x ∨ ∃ w ∈ l, f w = some z := by
  induction t with
  | @last x _ => intro z hz; exact .inl (List.mem_singleton.mp hz)
  | @step x y l e hy t ih =>
    intro z hz
    rcases List.mem_cons.mp hz with rfl | hz
    · exact .inl rfl
    · rcases ih z hz with rfl | ⟨w, hw, q⟩
      · exact .inr ⟨x, by simp, e⟩
      · exact .inr ⟨w, List.mem_cons_of_mem _ hw, q⟩
theorem Trail.into {f : Int → Option Int} {h0 x : Int} {l : List Int} (t : Trail f h0 x l) : ∀ z ∈ l, ∀ y, f z = some y → y = h0 ∨ y ∈ l := by
  induction t with
  | @last x h =>
    intro z hz y e
    rw [List.mem_singleton.mp hz] at e
    rcases h with h | h
    · rw [h] at e; cases e
    · rw [h] at e; exact .inl (Option.some.inj e).symm
  | @step x y l h hy t ih =>
    intro z hz w e
    rcases List.mem_cons.mp hz with rfl | hz
    · rw [h] at e
      obtain rfl := Option.some.inj e
      obtain ⟨r, rfl⟩ := t.head
      exact .inr (by simp)
    · rcases ih z hz w e with q | q
      · exact .inl q
      · exact .inr (List.mem_cons_of_mem _ q)
theorem nd_len : ∀ (n : Nat) (l : List Int), l.Nodup → (∀ z ∈ l, InR n z) → l.length ≤ n
  | 0, l, _, h => by
    cases l with
    | nil => simp
    | cons a r => have := h a (by simp); omega
  | n + 1, l, nd, h => by
    have ih := nd_len n (l.erase (n : Int)) (nd.erase _) fun z hz => by
      obtain ⟨h1, h2⟩ := (List.Nodup.mem_erase_iff nd).mp hz
      have := h z h2
      omega
    by_cases m : (n : Int) ∈ l
    · rw [List.length_erase_of_mem m] at ih; omega
    · rw [List.erase_of_not_mem m] at ih; omega
theorem trail_go {f : Int → Option Int} {n : Nat} {h0 : Int} (rng : ∀ x y, InR n x → f x = some y → InR n y) (inj : ∀ x y z, InR n x → InR n y → f x = some z → f y = some z → x = y) :
    ∀ (k : Nat) (v : List Int) (x : Int), (v ++ [x]).Nodup → (∀ z ∈ v ++ [x], InR n z) → (∀ z ∈ v ++ [x], z = h0 ∨ ∃ w ∈ v, f w = some z) → n ≤ v.length + k → ∃ l, Trail f h0 x l ∧ (v ++ l).Nodup ∧ ∀ z ∈ v ++ l, InR n z
  | 0, v, x, nd, hr, _, hk => by
    have := nd_len n _ nd hr
    simp at this; omega
  | k + 1, v, x, nd, hr, hf, hk => by
    cases e : f x with
    | none => exact ⟨[x], .last (.inl e), nd, hr⟩
    | some y =>
      by_cases hy : y = h0
      · exact ⟨[x], .last (.inr (by rw [e, hy])), nd, hr⟩
      · have hx : InR n x := hr x (by simp)
        have ny : y ∉ v ++ [x] := fun m => by
          rcases hf y m with q | ⟨w, hw, q⟩
          · exact hy q
          · have := inj w x y (hr w (by simp [hw])) hx q e
            subst this
            have nd' := (List.nodup_append.mp nd).2.2 w hw w (by simp)
            exact nd' rfl
        obtain ⟨l, t, nd2, hr2⟩ := trail_go rng inj k (v ++ [x]) y (by
            rw [List.nodup_append]
            exact ⟨nd, by simp, fun a ha b hb => by rw [List.mem_singleton.mp hb]; exact fun z => ny (z ▸ ha)⟩)
          (fun z hz => by
            rcases List.mem_append.mp hz with m | m
            · exact hr z m
            · rw [List.mem_singleton.mp m]; exact rng x y hx e)
          (fun z hz => by
            rcases List.mem_append.mp hz with m | m
            · rcases hf z m with q | ⟨w, hw, q⟩
              · exact .inl q
              · exact .inr ⟨w, by simp [hw], q⟩
            · rw [List.mem_singleton.mp m]; exact .inr ⟨x, by simp, e⟩)
          (by simp; omega)
        refine ⟨x :: l, .step e hy t, ?_, ?_⟩
        · rwa [List.append_assoc] at nd2
        · rwa [List.append_assoc] at hr2
theorem trail_ex {f : Int → Option Int} {n : Nat} {h0 : Int} (rng : ∀ x y, InR n x → f x = some y → InR n y) (inj : ∀ x y z, InR n x → InR n y → f x = some z → f y = some z → x = y) (h : InR n h0) :
    ∃ l, Trail f h0 h0 l ∧ l.Nodup ∧ (∀ z ∈ l, InR n z) ∧ l.length ≤ n := by
  obtain ⟨l, t, nd, hr⟩ := trail_go (h0 := h0) rng inj n [] h0 (by simp) (by simpa using h) (by simp) (by simp)
  exact ⟨l, t, by simpa using nd, by simpa using hr, nd_len n l (by simpa using nd) (by simpa using hr)⟩
theorem trl_ex {f : Int → Option Int} {n : Nat} {h0 : Int} (rng : ∀ x y, InR n x → f x = some y → InR n y) (inj : ∀ x y z, InR n x → InR n y → f x = some z → f y = some z → x = y) (h : InR n h0) :
    Trail f h0 h0 (trl f h0 n h0) ∧ (trl f h0 n h0).Nodup ∧ (∀ z ∈ trl f h0 n h0, InR n z) ∧ (trl f h0 n h0).length ≤ n := by
  obtain ⟨l, t, nd, hr, hl⟩ := trail_ex rng inj h
  rw [trl_of t n (by omega)]
  exact ⟨t, nd, hr, hl⟩
def Lin (f : Int → Option Int) : List Int → Prop
  | [] => True
  | [_] => True
  | x :: y :: r => f x = some y ∧ Lin f (y :: r)
theorem Trail.lin {f : Int → Option Int} {h0 x : Int} {l : List Int} (t : Trail f h0 x l) : Lin f l := by
  induction t with
  | last h => trivial
  | @step x y l e hy t ih =>
    obtain ⟨r, rfl⟩ := t.head
    exact ⟨e, ih⟩
theorem Lin.from {f : Int → Option Int} : ∀ {x : Int} {l : List Int}, Lin f (x :: l) → ∀ z ∈ l, ∃ w, w ∈ x :: l ∧ f w = some z
  | x, [], _, z, hz => by cases hz
  | x, y :: r, h, z, hz => by
    rcases List.mem_cons.mp hz with rfl | hz
    · exact ⟨x, by simp, h.1⟩
    · obtain ⟨w, hw, e⟩ := Lin.from h.2 z hz
      exact ⟨w, List.mem_cons_of_mem _ hw, e⟩
theorem trail_of_lin {f : Int → Option Int} {h0 : Int} : ∀ {x : Int} {l : List Int}, Lin f (x :: l) → (∀ z ∈ l, z ≠ h0) → (∀ z, (x :: l).getLast? = some z → f z = none ∨ f z = some h0) → Trail f h0 x (x :: l)
  | x, [], _, _, hl => .last (hl x rfl)
  | x, y :: r, h, hn, hl => .step h.1 (hn y (by simp)) (trail_of_lin h.2 (fun z hz => hn z (List.mem_cons_of_mem _ hz)) fun z hz => hl z (by rw [List.getLast?_cons_cons]; exact hz))
end Hs
set_option linter.all false
namespace Hs
def lkM (ms : List (Option Int)) (x : Int) : Option Int := (ms[x.toNat]?).getD none
def ahd (on : List Int) (h : Int) : Int := ((on.idxOf h : Nat) : Int)
def lefM (on : List Int) (ms : List (Option Int)) (h : Int) : Option Int := lkM ms (ahd on h)
def rigM (on : List Int) (ms : List (Option Int)) (h : Int) : Option Int := (lkM ms h).map (lk on)
def onwF (on : List Int) (x : Int) : Option Int := some (lk on x)
def patL (on : List Int) (h : Int) : List Int := trl (onwF on) h on.length h
def fstK (on : List Int) (ms : List (Option Int)) (h : Int) : Int := fstF (rigM on ms) h on.length h
def knotL (on : List Int) (ms : List (Option Int)) (h : Int) : List Int := trl (lefM on ms) (fstK on ms h) on.length (fstK on ms h)
def rimF (on : List Int) (ms : List (Option Int)) (x : Int) : Option Int := if lkM ms x = none then some (fstK on ms (lk on x)) else none
def rimL (on : List Int) (ms : List (Option Int)) (h : Int) : List Int := trl (rimF on ms) h on.length h
theorem ahd_get {on : List Int} {h : Int} (m : h ∈ on) : on[on.idxOf h]? = some h := by
  rw [List.getElem?_eq_getElem (List.idxOf_lt_length_iff.mpr m)]; simp
theorem ahd_rng {on : List Int} {h : Int} (m : h ∈ on) : 0 ≤ ahd on h ∧ ahd on h < on.length := by
  have := List.idxOf_lt_length_iff.mpr m
  unfold ahd; omega
theorem lkM_some {ms : List (Option Int)} {half m : Int} (e : lkM ms half = some m) : ms[half.toNat]? = some (some m) := by
  unfold lkM at e
  cases e2 : ms[half.toNat]? with
  | none => rw [e2] at e; cases e
  | some o => rw [e2] at e; exact congrArg some e
section
variable {on : List Int} {ms : List (Option Int)} (S : SkinOk on ms)
include S
theorem SkinOk.mem {h : Int} (g : InR on.length h) : h ∈ on := S.sur h g.1 g.2
theorem SkinOk.lkR {x : Int} (g : InR on.length x) : InR on.length (lk on x) :=
  S.rng _ (List.mem_of_getElem? (lk_get (by omega)))
theorem SkinOk.lkI {x y : Int} (g : InR on.length x) (k : InR on.length y) (e : lk on x = lk on y) : x = y := by
  have h1 := lk_get (l := on) (x := x) (by omega)
  have h2 := lk_get (l := on) (x := y) (by omega)
  rw [e] at h1
  have := nd_at S.nd h1 h2
  omega
theorem SkinOk.lkA {y : Int} (g : InR on.length y) : lk on (ahd on y) = y := by
  have h := ahd_get (S.mem g)
  have r := ahd_rng (S.mem g)
  have h2 := lk_get (l := on) (x := ahd on y) (by omega)
  have e : (ahd on y).toNat = on.idxOf y := by unfold ahd; omega
  rw [e, h] at h2
  exact (Option.some.inj h2).symm
theorem SkinOk.ahR {y : Int} (g : InR on.length y) : InR on.length (ahd on y) := ahd_rng (S.mem g)
theorem SkinOk.ahL {x : Int} (g : InR on.length x) : ahd on (lk on x) = x := S.lkI (S.ahR (S.lkR g)) g (S.lkA (S.lkR g))
theorem SkinOk.mate {x m : Int} (g : InR on.length x) (e : lkM ms x = some m) : InR on.length m ∧ lkM ms m = some x ∧ m ≠ x := by
  obtain ⟨h1, h2, h3, h4⟩ := S.ok x.toNat m (lkM_some e)
  refine ⟨⟨h1, h2⟩, ?_, fun z => h3 (by omega)⟩
  unfold lkM
  rw [h4]
  show some ((x.toNat : Nat) : Int) = some x
  congr 1; omega
theorem SkinOk.lefR {x y : Int} (g : InR on.length x) (e : lefM on ms x = some y) : InR on.length y := (S.mate (S.ahR g) e).1
theorem SkinOk.rigR {x y : Int} (g : InR on.length x) (e : rigM on ms x = some y) : InR on.length y := by
  obtain ⟨m, h1, h2⟩ := Option.map_eq_some_iff.mp e
  rw [← h2]; exact S.lkR (S.mate g h1).1
theorem SkinOk.rigL {x y : Int} (g : InR on.length x) (e : rigM on ms x = some y) : lefM on ms y = some x := by
  obtain ⟨m, h1, h2⟩ := Option.map_eq_some_iff.mp e
  obtain ⟨gm, hm, _⟩ := S.mate g h1
  unfold lefM
  rw [← h2, S.ahL gm, hm]
theorem SkinOk.lefG {x y : Int} (g : InR on.length x) (e : lefM on ms x = some y) : rigM on ms y = some x := by
  obtain ⟨gy, hy, _⟩ := S.mate (S.ahR g) e
  unfold rigM
  rw [hy]
  show some (lk on (ahd on x)) = some x
  rw [S.lkA g]
theorem SkinOk.lefI {x y z : Int} (g : InR on.length x) (k : InR on.length y) (a : lefM on ms x = some z) (b : lefM on ms y = some z) : x = y :=
  Option.some.inj ((S.lefG g a).symm.trans (S.lefG k b))
theorem SkinOk.rigI {x y z : Int} (g : InR on.length x) (k : InR on.length y) (a : rigM on ms x = some z) (b : rigM on ms y = some z) : x = y :=
  Option.some.inj ((S.rigL g a).symm.trans (S.rigL k b))
theorem SkinOk.pat {h : Int} (g : InR on.length h) : Trail (onwF on) h h (patL on h) ∧ (patL on h).Nodup ∧ (∀ z ∈ patL on h, InR on.length z) ∧ (patL on h).length ≤ on.length :=
  trl_ex (fun x y gx e => by cases e; exact S.lkR gx) (fun x y z gx gy a b => S.lkI gx gy ((Option.some.inj a).trans (Option.some.inj b).symm)) g
theorem SkinOk.rigT {h : Int} (g : InR on.length h) : ∃ l, Trail (rigM on ms) h h l ∧ l.Nodup ∧ (∀ z ∈ l, InR on.length z) ∧ l.length ≤ on.length :=
  trail_ex (fun x y gx e => S.rigR gx e) (fun x y z gx gy a b => S.rigI gx gy a b) g
theorem SkinOk.fst {h : Int} (g : InR on.length h) : InR on.length (fstK on ms h) ∧ ((rigM on ms (fstK on ms h) = none) ∨ fstK on ms h = h) := by
  obtain ⟨l, t, _, hr, hl⟩ := S.rigT g
  obtain ⟨z, hz, q⟩ := fstF_of t on.length hl
  rcases q with ⟨a, b⟩ | ⟨a, b⟩
  · unfold fstK; rw [b]; exact ⟨hr z hz, .inl a⟩
  · unfold fstK; rw [b]; exact ⟨g, .inr rfl⟩
theorem SkinOk.knot {h : Int} (g : InR on.length h) : Trail (lefM on ms) (fstK on ms h) (fstK on ms h) (knotL on ms h) ∧ (knotL on ms h).Nodup ∧ (∀ z ∈ knotL on ms h, InR on.length z) ∧ (knotL on ms h).length ≤ on.length :=
  trl_ex (fun x y gx e => S.lefR gx e) (fun x y z gx gy a b => S.lefI gx gy a b) (S.fst g).1
theorem SkinOk.knot_of {h : Int} (g : InR on.length h) {l : List Int} (t : Trail (lefM on ms) (fstK on ms h) (fstK on ms h) l) (hl : l.length ≤ on.length + 1) : knotL on ms h = l := trl_of t _ hl
theorem SkinOk.round {h z : Int} (g : InR on.length h) {l : List Int} (t : Trail (lefM on ms) h h l) (hz : z ∈ l) (e : lefM on ms z = some h) : fstK on ms h = h := by
  obtain ⟨r, tr, _, hr, hl⟩ := S.rigT g
  have lr : ∀ x ∈ l, InR on.length x := t.all (P := fun x => InR on.length x) g fun a b ga e => S.lefR ga e
  obtain ⟨w, hw, q⟩ := fstF_of tr on.length hl
  have back : ∀ x ∈ l, ∃ y ∈ l, rigM on ms x = some y := fun x hx => by
    rcases t.from x hx with rfl | ⟨y, hy, q⟩
    · exact ⟨z, hz, S.lefG (lr z hz) e⟩
    · exact ⟨y, hy, S.lefG (lr y hy) q⟩
  have inl : ∀ x ∈ r, x ∈ l := by
    obtain ⟨r', e'⟩ := t.head
    refine tr.all (P := fun x => x ∈ l) (by rw [e']; simp) fun a b ha q => ?_
    obtain ⟨y, hy, q2⟩ := back a ha
    rw [q] at q2
    exact Option.some.inj q2 ▸ hy
  rcases q with ⟨a, b⟩ | ⟨a, b⟩
  · obtain ⟨y, _, q2⟩ := back w (inl w hw)
    rw [a] at q2; cases q2
  · exact b
theorem SkinOk.open' {h z : Int} (g : InR on.length h) {l r : List Int} (t : Trail (lefM on ms) h h l) (hz : z ∈ l) (e : lefM on ms z = none) (tr : Trail (rigM on ms) h h r) : ∀ x ∈ r, rigM on ms x ≠ some h := fun x hx ex => by
  have rr : ∀ x ∈ r, InR on.length x := tr.all (P := fun x => InR on.length x) g fun a b ga e => S.rigR ga e
  have back : ∀ y ∈ r, ∃ w ∈ r, lefM on ms y = some w := fun y hy => by
    rcases tr.from y hy with rfl | ⟨w, hw, q⟩
    · exact ⟨x, hx, S.rigL (rr x hx) ex⟩
    · exact ⟨w, hw, S.rigL (rr w hw) q⟩
  have inr : ∀ y ∈ l, y ∈ r := by
    obtain ⟨r', e'⟩ := tr.head
    refine t.all (P := fun x => x ∈ r) (by rw [e']; simp) fun a b ha q => ?_
    obtain ⟨w, hw, q2⟩ := back a ha
    rw [q] at q2
    exact Option.some.inj q2 ▸ hw
  obtain ⟨w, _, q⟩ := back z (inr z hz)
  rw [e] at q; cases q
theorem SkinOk.row {g : Int} {l : List Int} (gl : ∀ z ∈ g :: l, InR on.length z) (hg : rigM on ms g = none) (L : Lin (lefM on ms) (g :: l)) (hl : ∀ z, (g :: l).getLast? = some z → lefM on ms z = none) : Trail (lefM on ms) g g (g :: l) := by
  refine trail_of_lin L (fun z hz e => ?_) fun z hz => .inl (hl z hz)
  obtain ⟨w, hw, q⟩ := L.from z hz
  have := S.lefG (gl w hw) q
  rw [e, hg] at this; cases this
end
theorem fstF_none {f : Int → Option Int} {h0 x : Int} (h : f x = none) : ∀ k, fstF f h0 k x = x
  | 0 => rfl
  | k + 1 => by unfold fstF; rw [h]
theorem fstF_round {f : Int → Option Int} {h0 x : Int} (h : f x = some h0) (k : Nat) : fstF f h0 (k + 1) x = h0 := by unfold fstF; rw [h]; simp
theorem fstF_step {f : Int → Option Int} {h0 x y : Int} (h : f x = some y) (hy : y ≠ h0) (k : Nat) : fstF f h0 (k + 1) x = fstF f h0 k y := by
  show (match f x with | none => x | some y => if y = h0 then h0 else fstF f h0 k y) = _
  rw [h]; simp [hy]
end Hs
set_option linter.all false
namespace Hs
theorem Trail.none_last {f : Int → Option Int} {h0 x : Int} {l : List Int} (t : Trail f h0 x l) : ∀ z ∈ l, f z = none → l.getLast? = some z := by
  induction t with
  | @last x h => intro z hz _; rw [List.mem_singleton.mp hz]; rfl
  | @step x y l h hy t ih =>
    intro z hz e
    obtain ⟨r, rfl⟩ := t.head
    rcases List.mem_cons.mp hz with rfl | hz
    · rw [h] at e; cases e
    · rw [List.getLast?_cons_cons]; exact ih z hz e
section
variable {on : List Int} {ms : List (Option Int)} (S : SkinOk on ms)
include S
theorem SkinOk.fst_open {y : Int} (g : InR on.length y) (e : lefM on ms y = none) : rigM on ms (fstK on ms y) = none := by
  obtain ⟨r, tr, _, hr, hl⟩ := S.rigT g
  obtain ⟨w, hw, q⟩ := fstF_of tr on.length hl
  rcases q with ⟨a, b⟩ | ⟨a, b⟩
  · unfold fstK; rw [b]; exact a
  · have := S.rigL (hr w hw) a
    rw [e] at this; cases this
theorem SkinOk.back {h0 x g : Int} {r W : List Int} (t : Trail (rigM on ms) h0 x r) (hr : ∀ z ∈ r, InR on.length z) (hg : g ∈ W) (hl : r.getLast? = some g) (tw : Trail (lefM on ms) g g W) : ∀ z ∈ r, z ∈ W := by
  induction t with
  | @last x h =>
    intro z hz
    rw [List.mem_singleton.mp hz]
    have : x = g := by simpa using hl
    rw [this]; exact hg
  | @step x y l h hy t ih =>
    obtain ⟨r', e'⟩ := t.head
    have ih := ih (fun z hz => hr z (List.mem_cons_of_mem _ hz)) (by rw [e'] at hl ⊢; rwa [List.getLast?_cons_cons] at hl)
    intro z hz
    rcases List.mem_cons.mp hz with rfl | hz
    · have hy := ih y (by rw [e']; simp)
      rcases tw.into y hy _ (S.rigL (hr _ (by simp)) h) with q | q
      · rw [q]; exact hg
      · exact q
    · exact ih z hz
theorem SkinOk.fst_inj {y y' : Int} (g : InR on.length y) (g' : InR on.length y') (e : lefM on ms y = none) (e' : lefM on ms y' = none) (q : fstK on ms y = fstK on ms y') : y = y' := by
  have key : ∀ {y : Int}, InR on.length y → lefM on ms y = none → y ∈ knotL on ms y := fun {y} g e => by
    obtain ⟨tw, _, hw, _⟩ := S.knot g
    obtain ⟨W', eW⟩ := tw.head
    obtain ⟨r, tr, _, hr, hl⟩ := S.rigT g
    obtain ⟨z, hz, fz⟩ := tr.fin
    have fo := S.fst_open g e
    obtain ⟨w, hw2, q2⟩ := fstF_of tr on.length hl
    have zg : z = fstK on ms y := by
      rcases fz with fz | fz
      · have := tr.none_last w hw2
        rcases q2 with ⟨a, b⟩ | ⟨a, b⟩
        · have := this a
          rw [hz] at this
          unfold fstK; rw [b]; exact Option.some.inj this
        · have := S.rigL (hr w hw2) a
          rw [e] at this; cases this
      · have := S.rigL (hr z (List.mem_of_getLast? hz)) fz
        rw [e] at this; cases this
    obtain ⟨r', er⟩ := tr.head
    exact S.back tr hr (by rw [eW]; simp) (by rw [hz, zg]) tw y (by rw [er]; simp)
  have h1 := key g e
  have h2 := key g' e'
  have eK : knotL on ms y = knotL on ms y' := by unfold knotL; rw [q]
  rw [← eK] at h2
  have l1 := (S.knot g).1.none_last y h1 e
  have l2 := (S.knot g).1.none_last y' h2 e'
  rw [l1] at l2
  exact Option.some.inj l2
theorem SkinOk.free_left {x : Int} (g : InR on.length x) (e : lkM ms x = none) : lefM on ms (lk on x) = none := by
  unfold lefM; rw [S.ahL g]; exact e
theorem SkinOk.fst_free {x : Int} (g : InR on.length x) (e : lkM ms x = none) : InR on.length (fstK on ms (lk on x)) ∧ lkM ms (fstK on ms (lk on x)) = none := by
  refine ⟨(S.fst (S.lkR g)).1, ?_⟩
  have := S.fst_open (S.lkR g) (S.free_left g e)
  unfold rigM at this
  exact Option.map_eq_none_iff.mp this
theorem rimF_some {x y : Int} (q : rimF on ms x = some y) : lkM ms x = none ∧ y = fstK on ms (lk on x) := by
  unfold rimF at q
  split at q
  · exact ⟨by assumption, (Option.some.inj q).symm⟩
  · cases q
theorem SkinOk.rim {h : Int} (g : InR on.length h) : Trail (rimF on ms) h h (rimL on ms h) ∧ (rimL on ms h).Nodup ∧ (∀ z ∈ rimL on ms h, InR on.length z) ∧ (rimL on ms h).length ≤ on.length :=
  trl_ex (fun x y gx e => by
      obtain ⟨a, b⟩ := rimF_some S e
      rw [b]; exact (S.fst_free gx a).1)
    (fun x y z gx gy a b => by
      obtain ⟨a1, a2⟩ := rimF_some S a
      obtain ⟨b1, b2⟩ := rimF_some S b
      exact S.lkI gx gy (S.fst_inj (S.lkR gx) (S.lkR gy) (S.free_left gx a1) (S.free_left gy b1) (a2.symm.trans b2))) g
theorem SkinOk.rim_free {h : Int} (g : InR on.length h) (e : lkM ms h = none) : ∀ z ∈ rimL on ms h, InR on.length z ∧ lkM ms z = none :=
  (S.rim g).1.all (P := fun z => InR on.length z ∧ lkM ms z = none) ⟨g, e⟩ fun a b ga q => by
    obtain ⟨a1, a2⟩ := rimF_some S q
    rw [a2]; exact S.fst_free ga.1 a1
end
end Hs
set_option Elab.async false
set_option linter.all false
set_option maxRecDepth 100000
set_option maxHeartbeats 1000000
namespace Hs
open PySem L2
section
variable {P : Program} {w : World} {K : PySem.W.Frag} {mg : Str → Option Value} {base : Heap} {f : Addr} {fd : FuncData} {cN : Addr}
def spCheck (K : PySem.W.Frag) (cN : Addr) : Sp := fun vs H Q E => ∃ (p po : Addr) (rest on : List V) (half : Int), vs = [.ref p, .int half] ∧ SqT K H p (.ref po :: rest) ∧ SqT K H po on ∧ half.natAbs.log2 < 1920 ∧
  (0 ≤ half ∧ half < on.length → Q .non H) ∧ (¬ (0 ≤ half ∧ half < on.length) → E (.ref cN) none H)
theorem scCheck : FnScope ["skin", "half"] ["skin", "half"] (defScope s_check_half) := ⟨rfl, rfl, rfl, by decide +kernel, rfl, by decide +kernel, by decide +kernel⟩
theorem ok_check (B : Bi mg) (own : OwnE K cN) (hN : mg "NoHalf" = some (.ref cN)) (F : Fun K "check_half" "check_half" s_check_half f fd) : FnOk P w K mg base (CXf P w) 1 f fd ["skin", "half"] (spCheck K cN) := by
  refine FunX.ok F scCheck (fun vs H Q E h => ?_) (fun cdv A outer s H vs Q E hr h G => ?_)
  · obtain ⟨p, po, rest, on, half, rfl, _⟩ := h; rfl
  obtain ⟨p, po, rest, on, half, rfl, hp, ho, hb, q1, q2⟩ := h
  refine ⟨_, (pss_one (ps_if (pt_not (pt_chain op_le op_lt pe_int (pv 1) (pe_callB call_len_seq rfl B.len_ bt_len (pa_cons (pe_ix ix_tup (pv 0) pe_int (fun _ _ => rfl)) pa_nil))))
   (pss_one (ps_raise rfl own hN G (pa_cons pe_str pa_nil)))
   pss_nil)), ?_⟩
  refine ⟨_, rfl, _, _, rfl, rfl, _, rfl, ite2 (fun c1 => ?_) (fun c1 => ?_)⟩
  · refine ⟨_, rfl, p, _, _, .ref po, rfl, rfl, hp, at0 _ _, po, on, rfl, .inr ho, _, _, rfl, rfl, _, rfl, ite2 (fun c2 => ?_) (fun c2 => ?_)⟩
    · have z : ¬ (0 ≤ half ∧ half < on.length) := by simp at c1 c2; omega
      exact ⟨(by show 1 ≤ 100; decide), q2 z⟩
    · exact q1 (by simp at c1 c2; omega)
  · refine ⟨_, rfl, ite2 (fun c2 => ?_) (fun c2 => ?_)⟩
    · have z : ¬ (0 ≤ half ∧ half < on.length) := by simp at c1; omega
      exact ⟨(by show 1 ≤ 100; decide), q2 z⟩
    · exact absurd c2 (by decide)
structure SkAt (H : Hp) (p : Addr) (on : List Int) (ms : List (Option Int)) : Prop where
  ok : SkinOk on ms
  ex : ∃ po pm, H p = some (.tup [.ref po, .ref pm]) ∧ H po = some (.tup (on.map V.int)) ∧ H pm = some (.tup (ms.map mV))
theorem SkAt.same {H H' : Hp} {p : Addr} {on : List Int} {ms : List (Option Int)} (S : SkAt H p on ms) (s : Same H H') : SkAt H' p on ms := by
  obtain ⟨k, po, pm, h1, h2, h3⟩ := S
  exact ⟨k, po, pm, s _ _ h1, s _ _ h2, s _ _ h3⟩
theorem at_lkM {ms : List (Option Int)} {x : Int} (h0 : 0 ≤ x) (h : x < ms.length) : atI (ms.map mV) x = some (mV (lkM ms x)) := by
  refine atN h0 ?_
  unfold lkM
  rw [List.getElem?_map, List.getElem?_eq_getElem (by omega)]; rfl
theorem at_lk {on : List Int} {x : Int} (h0 : 0 ≤ x) (h : x < on.length) : atI (on.map V.int) x = some (.int (lk on x)) := by
  refine atN h0 ?_
  rw [List.getElem?_map, lk_get (by omega)]; rfl
def spHalf (cN : Addr) (g : List Int → List (Option Int) → Int → V) : Sp := fun vs H Q E => ∃ (p : Addr) (on : List Int) (ms : List (Option Int)) (half : Int), vs = [.ref p, .int half] ∧ SkAt H p on ms ∧ half.natAbs.log2 < 1920 ∧
  (0 ≤ half ∧ half < on.length → Q (g on ms half) H) ∧ (¬ (0 ≤ half ∧ half < on.length) → E (.ref cN) none H)
def gRight : List Int → List (Option Int) → Int → V := fun on ms h => mV (rigM on ms h)
theorem scRight : FnScope ["skin", "half", "mate", "onward", "mates"] ["skin", "half"] (defScope s_right_of) := ⟨rfl, rfl, rfl, by decide +kernel, rfl, by decide +kernel, by decide +kernel⟩
theorem ok_right_of (B : Bi mg) (FC : FnX P w K mg base "check_half" ["skin", "half"] 1 (spCheck K cN)) (F : Fun K "right_of" "right_of" s_right_of f fd) : FnOk P w K mg base (CXf P w) 2 f fd ["skin", "half"] (spHalf cN gRight) := by
  refine FunX.ok F scRight (fun vs H Q E h => ?_) (fun cdv A outer s H vs Q E hr h G => ?_)
  · obtain ⟨p, on, ms, half, rfl, _⟩ := h; rfl
  obtain ⟨p, on, ms, half, rfl, ⟨sk, po, pm, h1, h2, h3⟩, hb, q1, q2⟩ := h
  have hl : (on.map V.int).length = on.length := List.length_map _
  refine ⟨_, (pss_cons (ps_expr (pe_callX FC hr (by decide) G (pa_cons (pv 0) (pa_cons (pv 1) pa_nil))))
   (pss_cons (ps_asg (pv 0) (pg_tup rfl (pgs_cons (pg_name (i := 3) scRight.nd rfl (Or.inl rfl)) (pgs_cons (pg_name (i := 4) scRight.nd rfl (Or.inl rfl)) pgs_nil))))
   (pss_cons (ps_set (i := 2) scRight.nd rfl (Or.inl rfl) (pe_ix ix_tup (pv 4) (pv 1) (fun _ _ => rfl)))
   (pss_cons (ps_if (pt_cmpR op_isN (pv 2) pe_non (nomark _))
   (pss_one (ps_ret pe_non))
   pss_nil)
   (pss_one (ps_ret (pe_ix ix_tup (pv 3) (pv 2) (fun _ _ => rfl)))))))), ?_⟩
  refine ⟨_, rfl, _, rfl, p, po, _, _, half, rfl, SqT.of h1, SqT.of h2, hb, fun g => ?_, fun g => q2 (by rw [hl] at g; exact g)⟩
  rw [hl] at g
  have q := q1 g
  refine ⟨_, rfl, p, _, rfl, SqT.of h1, rfl, _, _, rfl, _, _, rfl, rfl, ?_⟩
  refine ⟨_, rfl, _, rfl, pm, _, _, _, rfl, rfl, SqT.of h3, at_lkM g.1 (by rw [sk.len]; exact g.2), ?_⟩
  unfold gRight rigM at q
  cases e : lkM ms half with
  | none =>
    rw [e] at q
    exact ⟨_, rfl, rfl, _, rfl, itP rfl q⟩
  | some m =>
    rw [e] at q
    have hm := sk.ok half.toNat m (by unfold lkM at e; cases e2 : ms[half.toNat]? with | none => rw [e2] at e; cases e | some o => rw [e2] at e; exact congrArg some e)
    exact ⟨_, rfl, rfl, _, rfl, itN rfl ⟨_, rfl, _, rfl, po, _, _, _, rfl, rfl, SqT.of h2, at_lk hm.1 hm.2.1, q⟩⟩
end
end Hs
set_option Elab.async false
set_option linter.all false
set_option maxRecDepth 100000
set_option maxHeartbeats 1000000
namespace Hs
open PySem L2
theorem gd_i (k : Nat) (i : Int) : Gd k (.int i) := ⟨by simp [PyData.canLay0], by simp [PyData.depth], by simp [wd]⟩
theorem _root_.L2.Gd.eqv {k : Nat} {d : PyData} (g : Gd k d) : PyData.eqv d d = true := SeqAt.eqv_refl d g.lay
theorem gdA_nil (k : Nat) : GdA k [] := fun d h => by cases h
theorem gdA_cons {k : Nat} {d : PyData} {ds : List PyData} (g : Gd k d) (h : GdA k ds) : GdA k (d :: ds) := fun x hx => by
  rcases List.mem_cons.mp hx with rfl | hx
  · exact g
  · exact h x hx
theorem yesT {σ : St} {H : Hp} {A B : Hp → Prop} (h : A H) : tYes σ H (fun b H3 => if b = true then A H3 else B H3) := by
  have z : (if true = true then A H else B H) := by rw [if_pos rfl]; exact h
  exact z
theorem same_set {H H' : Hp} {p : Addr} {o : HO} (s : Same H H') (h : H p = none) : Same H (upd H' p o) := fun b u q => by rw [upd_ne (ne_of_none q h)]; exact s b u q
theorem dpAll_of {K : PySem.W.Frag} {H : Hp} : ∀ (rs : List Addr) (ds : List PyData), rs.length = ds.length → (∀ (j : Nat) r d, rs[j]? = some r → ds[j]? = some d → Dp K H (.ref r) d) → DpAll K H (rs.map V.ref) ds
  | [], [], _, _ => .nil
  | r :: rs, d :: ds, hl, h => .cons (h 0 r d rfl rfl) (dpAll_of rs ds (by simpa using hl) fun j r' d' h1 h2 => h (j + 1) r' d' (by simpa using h1) (by simpa using h2))
  | [], _ :: _, hl, _ => by simp at hl
  | _ :: _, [], hl, _ => by simp at hl
end Hs
set_option Elab.async false
set_option linter.all false
set_option maxRecDepth 100000
set_option maxHeartbeats 1000000
namespace Hs
open PySem L2
theorem trail_two {f : Int → Option Int} {h0 x : Int} {l : List Int} (t : Trail f h0 x l) : (l = [x] ∧ (f x = none ∨ f x = some h0)) ∨ ∃ y r, l = x :: r ∧ f x = some y ∧ y ≠ h0 ∧ Trail f h0 y r := by
  cases t with
  | last h => exact .inl ⟨rfl, h⟩
  | step h hy t => exact .inr ⟨_, _, rfl, h, hy, t⟩
theorem small_log {z : Int} (h : z.natAbs ≤ 1000000000) : z.natAbs.log2 < 1920 := by
  by_cases e : z.natAbs = 0
  · rw [e]; decide
  · exact (Nat.log2_lt e).mpr (Nat.lt_of_le_of_lt h (by decide +kernel))
section
variable {P : Program} {w : World} {K : PySem.W.Frag} {mg : Str → Option Value} {base : Heap} {f : Addr} {fd : FuncData} {cN cR : Addr}
def spHalfT (cN : Addr) (g : List Int → List (Option Int) → Int → List Int) : Sp := fun vs H Q E => ∃ (p : Addr) (on : List Int) (ms : List (Option Int)) (half : Int), vs = [.ref p, .int half] ∧ SkAt H p on ms ∧ half.natAbs.log2 < 1920 ∧
  (InR on.length half → ∀ r H', Same H H' → H r = none → H' r = some (.tup ((g on ms half).map V.int)) → Q (.ref r) H') ∧ (¬ InR on.length half → E (.ref cN) none H)
def gPatch : List Int → List (Option Int) → Int → List Int := fun on _ h => patL on h
theorem scPatch : FnScope ["skin", "half", "onward", "walk", "at"] ["skin", "half"] (defScope s_patch_of) := ⟨rfl, rfl, rfl, by decide +kernel, rfl, by decide +kernel, by decide +kernel⟩
theorem ok_patch_of (B : Bi mg) (FC : FnX P w K mg base "check_half" ["skin", "half"] 1 (spCheck K cN)) (F : Fun K "patch_of" "patch_of" s_patch_of f fd) : FnOk P w K mg base (CXf P w) 2 f fd ["skin", "half"] (spHalfT cN gPatch) := by
  refine FunX.ok F scPatch (fun vs H Q E h => ?_) (fun cdv A outer s H vs Q E hr h G => ?_)
  · obtain ⟨p, on, ms, half, rfl, _⟩ := h; rfl
  obtain ⟨p, on, ms, half, rfl, ⟨sk, po, pm, h1, h2, h3⟩, hb, q1, q2⟩ := h
  have hl : (on.map V.int).length = on.length := List.length_map _
  refine ⟨_, (pss_cons (ps_expr (pe_callX FC hr (by decide) G (pa_cons (pv 0) (pa_cons (pv 1) pa_nil))))
   (PSs.nox (pss_cons (ps_set (i := 2) scPatch.nd rfl (Or.inl rfl) (pe_ix ix_tup (pv 0) pe_int (fun _ _ => rfl)))
   (pss_cons (ps_set (i := 3) scPatch.nd rfl (Or.inl rfl) (pe_lst (pa_cons (pv 1) pa_nil)))
   (pss_cons (ps_set (i := 4) scPatch.nd rfl (Or.inl rfl) (pe_ix ix_tup (pv 2) (pv 1) (fun _ _ => rfl)))
   (pss_cons (ps_while PassesOwn.never (pt_cmpR op_ne (pv 4) (pv 1) (nomark _))
   (pss_cons (ps_expr (pe_bm PySem.F.plainAttrs_list PySem.F.slot_list_append PySem.F.type_list_append mt_append (pv 3) (pa_cons (pv 4) pa_nil)))
   (pss_one (ps_set (i := 4) scPatch.nd rfl (Or.inl rfl) (pe_ix ix_tup (pv 2) (pv 4) (fun _ _ => rfl))))))
   (pss_one (ps_ret (pe_callTy call_tuple_of rfl B.tuple_ bt_tuple (pa_cons (pv 3) pa_nil)))))))))), ?_⟩
  refine ⟨_, rfl, _, rfl, p, po, _, _, half, rfl, SqT.of h1, SqT.of h2, hb, fun g => ?_, fun g => q2 (by rw [hl] at g; exact g)⟩
  rw [hl] at g
  have q := q1 g
  have hle := sk.le
  obtain ⟨tr, _, rg, len⟩ := sk.pat g
  refine ⟨_, rfl, p, _, _, .ref po, rfl, rfl, SqT.of h1, at0 _ _, _, rfl, (by show 1 ≤ sizeLine; decide), fun lw hlw => ?_⟩
  refine ⟨_, rfl, _, rfl, po, _, _, _, rfl, rfl, SqT.of (up hlw h2), at_lk g.1 g.2, ?_⟩
  refine ⟨fun m σ H' => ∃ (pre rest : List Int) (a : Int), m = rest.length ∧ σ = [some (.ref p), some (.int half), some (.ref po), some (.ref lw), some (.int a)] ∧ Same H H' ∧ H' lw = some (.lst (pre.map V.int)) ∧ patL on half = pre ++ rest ∧
      ((rest = [] ∧ a = half) ∨ (Trail (onwF on) half a rest ∧ a ≠ half)), ?_, ?_⟩
  · rcases trail_two tr with ⟨e, h⟩ | ⟨y, r, e, hy, ne, t⟩
    · refine ⟨_, [half], [], lk on half, rfl, rfl, same_put hlw _, upd_same, e, .inl ⟨rfl, ?_⟩⟩
      rcases h with h | h
      · cases h
      · exact Option.some.inj h
    · obtain rfl := Option.some.inj hy
      exact ⟨_, [half], r, lk on half, rfl, rfl, same_put hlw _, upd_same, e, .inr ⟨t, ne⟩⟩
  rintro m σ H' ⟨pre, rest, a, rfl, rfl, sm, hw, eP, hc⟩
  have pl : pre.length + rest.length ≤ 400 := by rw [← List.length_append, ← eP]; omega
  refine ⟨_, rfl, _, rfl, rfl, _, rfl, ite2 (fun c => ?_) (fun c => ?_)⟩
  · have c : a ≠ half := by simpa using c
    rcases hc with ⟨_, z⟩ | ⟨t, _⟩
    · exact absurd z c
    refine ⟨_, fun _ _ z => z, ?_⟩
    have ga : InR on.length a := rg a (by rw [eP]; obtain ⟨r', e'⟩ := t.head; rw [e']; simp)
    refine ⟨_, rfl, .inl ⟨rfl, _, SqL.of hw⟩, _, rfl, lw, _, _, rfl, rfl, hw, ?_, ?_⟩
    · rw [List.length_map, sizeLine_eq]; omega
    have sm' : Same H (upd H' lw (.lst (pre.map V.int ++ [.int a]))) := same_set sm hlw
    refine ⟨_, rfl, _, rfl, po, _, _, _, rfl, rfl, SqT.of (sm' _ _ h2), at_lk ga.1 ga.2, ?_⟩
    have hw' : upd H' lw (.lst (pre.map V.int ++ [.int a])) lw = some (.lst ((pre ++ [a]).map V.int)) := by rw [upd_same, List.map_append]; rfl
    rcases trail_two t with ⟨e, h⟩ | ⟨y, r, e, hy, ne, t'⟩
    · refine ⟨0, by rw [e]; simp, pre ++ [a], [], lk on a, rfl, rfl, sm', hw', by rw [eP, e]; simp, .inl ⟨rfl, ?_⟩⟩
      rcases h with h | h
      · cases h
      · exact Option.some.inj h
    · obtain rfl := Option.some.inj hy
      exact ⟨r.length, by rw [e]; simp, pre ++ [a], r, lk on a, rfl, rfl, sm', hw', by rw [eP, e]; simp, .inr ⟨t', ne⟩⟩
  · have c : a = half := by simpa using c
    have er : rest = [] := by
      rcases hc with ⟨z, _⟩ | ⟨_, z⟩
      · exact z
      · exact absurd c z
    rw [er, List.append_nil] at eP
    refine ⟨_, rfl, lw, _, rfl, .inl ⟨SqL.of hw, fun r hr => ?_⟩⟩
    refine q r _ (sm.trans (same_put hr _)) (sm.free hr) ?_
    show upd H' r (.tup (pre.map V.int)) r = some (.tup ((patL on half).map V.int))
    rw [upd_same, eP]
theorem scFst : FnScope ["skin", "half", "at", "after"] ["skin", "half"] (defScope s_first_of_knot) := ⟨rfl, rfl, rfl, by decide +kernel, rfl, by decide +kernel, by decide +kernel⟩
def spFst : Sp := fun vs H Q _ => ∃ (p : Addr) (on : List Int) (ms : List (Option Int)) (half : Int), vs = [.ref p, .int half] ∧ SkAt H p on ms ∧ InR on.length half ∧ Q (.int (fstK on ms half)) H
theorem ok_fst (B : Bi mg) (FR : FnX P w K mg base "right_of" ["skin", "half"] 2 (spHalf cN gRight)) (F : Fun K "first_of_knot" "first_of_knot" s_first_of_knot f fd) : FnOk P w K mg base CX0 3 f fd ["skin", "half"] spFst := by
  refine F.ok scFst (fun vs H Q E h => ?_) (fun cdv A outer s H vs Q E hr h => ?_)
  · obtain ⟨p, on, ms, half, rfl, _⟩ := h; rfl
  obtain ⟨p, on, ms, half, rfl, S, g, q⟩ := h
  refine ⟨_, (pss_cons (ps_set (i := 2) scFst.nd rfl (Or.inl rfl) (pv 1))
   (pss_one (ps_while PassesOwn.never (pt_val pe_bl)
   (pss_cons (ps_set (i := 3) scFst.nd rfl (Or.inl rfl) (pe_callXn FR hr (by decide) (pa_cons (pv 0) (pa_cons (pv 2) pa_nil))))
   (pss_cons (ps_if (pt_cmpR op_isN (pv 3) pe_non (nomark _))
   (pss_one (ps_ret (pv 2)))
   pss_nil)
   (pss_cons (ps_if (pt_cmpR op_eq (pv 3) (pv 1) (nomark _))
   (pss_one (ps_ret (pv 1)))
   pss_nil)
   (pss_one (ps_set (i := 2) scFst.nd rfl (Or.inl rfl) (pv 3))))))))), ?_⟩
  have hle := S.ok.le
  obtain ⟨l, tr, _, rg, len⟩ := S.ok.rigT g
  refine ⟨_, rfl, fun m σ H' => ∃ (a : Int) (l : List Int) (k : Nat) (v : Option V), m = l.length ∧ σ = [some (.ref p), some (.int half), some (.int a), v] ∧ H' = H ∧ Trail (rigM on ms) half a l ∧ (∀ z ∈ l, InR on.length z) ∧ l.length ≤ k ∧ fstF (rigM on ms) half k a = fstK on ms half,
    ⟨_, half, l, on.length, _, rfl, rfl, rfl, tr, rg, len, rfl⟩, ?_⟩
  rintro m σ H' ⟨a, l, k, v, rfl, rfl, rfl, tr, rg, hk, e⟩
  refine ⟨_, rfl, itP rfl ⟨_, fun _ _ z => z, ?_⟩⟩
  obtain ⟨l', el⟩ := tr.head
  have ga : InR on.length a := rg a (by rw [el]; simp)
  obtain ⟨k', rfl⟩ : ∃ k', k = k' + 1 := ⟨k - 1, by rw [el] at hk; simp at hk; omega⟩
  refine ⟨_, rfl, _, rfl, p, on, ms, a, rfl, S, small_log (by omega), fun _ => ?_, fun n => absurd ga n⟩
  have gr : gRight on ms a = mV (rigM on ms a) := rfl
  rw [gr]
  cases er : rigM on ms a with
  | none =>
    refine ⟨_, rfl, rfl, _, rfl, itP rfl ⟨_, rfl, ?_⟩⟩
    rw [fstF_none er] at e
    rw [e]; exact q
  | some y =>
    refine ⟨_, rfl, rfl, _, rfl, itN rfl ⟨_, rfl, _, rfl, rfl, _, rfl, ite2 (fun c => ?_) (fun c => ?_)⟩⟩
    · have c : y = half := by simpa [mV] using c
      rw [c] at er
      rw [fstF_round er] at e
      refine ⟨_, rfl, ?_⟩
      rw [e]; exact q
    · have c : y ≠ half := by simpa [mV] using c
      rw [fstF_step er c] at e
      rcases trail_two tr with ⟨_, h⟩ | ⟨y', r, e2, hy, ne, t'⟩
      · rcases h with h | h
        · rw [er] at h; cases h
        · rw [er] at h; exact absurd (Option.some.inj h) c
      · rw [er] at hy
        obtain rfl := Option.some.inj hy
        refine ⟨_, rfl, r.length, by rw [e2]; simp, y, r, k', _, rfl, rfl, rfl, t', fun z hz => rg z (by rw [e2]; simp [hz]), ?_, e⟩
        rw [e2] at hk; simpa using hk
end
end Hs
set_option Elab.async false
set_option linter.all false
set_option maxRecDepth 100000
set_option maxHeartbeats 1000000
namespace Hs
open PySem L2
theorem set_int' {l : List Int} {j : Nat} {v : Int} : (l.map V.int).set j (.int v) = (l.set j v).map V.int := by rw [List.map_set]
section
variable {P : Program} {w : World} {K : PySem.W.Frag} {mg : Str → Option Value} {base : Heap} {f : Addr} {fd : FuncData} {cN cR : Addr}
structure AhL (on al : List Int) : Prop where
  len : al.length = on.length
  is : ∀ x, InR on.length x → lk al x = ahd on x
def spAll : Sp := fun vs H Q _ => ∃ (p : Addr) (on : List Int) (ms : List (Option Int)), vs = [.ref p] ∧ SkAt H p on ms ∧ ∀ la H' al, Same H H' → H la = none → H' la = some (.lst (al.map V.int)) → AhL on al → Q (.ref la) H'
theorem scAllA : FnScope ["skin", "onward", "ahead", "half", "behind"] ["skin"] (defScope s_all_ahead) := ⟨rfl, rfl, rfl, by decide +kernel, rfl, by decide +kernel, by decide +kernel⟩
theorem ok_all_ahead (B : Bi mg) (F : Fun K "all_ahead" "all_ahead" s_all_ahead f fd) : FnOk P w K mg base CX0 1 f fd ["skin"] spAll := by
  refine F.ok scAllA (fun vs H Q E h => ?_) (fun cdv A outer s H vs Q E hr h => ?_)
  · obtain ⟨p, on, ms, rfl, _⟩ := h; rfl
  obtain ⟨p, on, ms, rfl, ⟨sk, po, pm, h1, h2, h3⟩, q⟩ := h
  have hl : (on.map V.int).length = on.length := List.length_map _
  have hle := sk.le
  refine ⟨_, (pss_cons (ps_set (i := 1) scAllA.nd rfl (Or.inl rfl) (pe_ix ix_tup (pv 0) pe_int (fun _ _ => rfl)))
   (pss_cons (ps_set (i := 2) scAllA.nd rfl (Or.inl rfl) (pe_op op_rep (pe_lst (pa_cons pe_int pa_nil)) (pe_callB call_len_seq rfl B.len_ bt_len (pa_cons (pv 1) pa_nil))))
   (pss_cons (ps_for PassesOwn.never rfl (pi_enumT rfl B.enumerate_ (pa_cons (pv 1) pa_nil)) (pg_tup rfl (pgs_cons (pg_name (i := 3) scAllA.nd rfl (Or.inl rfl)) (pgs_cons (pg_name (i := 4) scAllA.nd rfl (Or.inl rfl)) pgs_nil)))
   (pss_one (ps_asg (pv 3) (pg_sub (pv 2) (pv 4) set_list))))
   (pss_one (ps_ret (pv 2)))))), ?_⟩
  refine ⟨_, rfl, p, _, _, .ref po, rfl, rfl, SqT.of h1, at0 _ _, (by show 1 ≤ sizeLine; decide), fun l0 hl0 => ?_⟩
  refine ⟨_, rfl, po, _, rfl, .inr (SqT.of (up hl0 h2)), ?_⟩
  rw [hl]
  refine ⟨l0, _, _, rfl, rfl, upd_same, by omega, by omega, ?_, fun la hla => ?_⟩
  · show 1 * ((on.length : Int)).toNat ≤ sizeLine
    rw [sizeLine_eq]; omega
  rw [Int.toNat_natCast, rep_int]
  have s1 := (same_put hl0 (.lst [.int 0])).trans (same_put hla (.lst ((List.replicate on.length (0 : Int)).map V.int)))
  have fa : H la = none := (same_put hl0 (.lst [.int 0])).free hla
  have e1 := upd_same (H := upd H l0 (.lst [.int 0])) (a := la) (o := .lst ((List.replicate on.length (0 : Int)).map V.int))
  generalize upd (upd H l0 (.lst [.int 0])) la (.lst ((List.replicate on.length (0 : Int)).map V.int)) = H1 at s1 e1 ⊢
  refine ⟨_, rfl, po, _, rfl, SqT.of (s1 _ _ h2), for_enumT (K := K) (a := po) (xs := on.map V.int) (fun i σ H' => ∃ (al : List Int) (v3 v4 : Option V), σ = [some (.ref p), some (.ref po), some (.ref la), v3, v4] ∧ Same H H' ∧ H' la = some (.lst (al.map V.int)) ∧ al.length = on.length ∧ ∀ j : Nat, j < i → j < on.length → lk al (lk on (j : Int)) = (j : Int))
    ⟨_, _, _, rfl, s1, e1, List.length_replicate, fun j hj => absurd hj (Nat.not_lt_zero _)⟩ (fun i σ H' _ ⟨_, _, _, _, s', _⟩ => SqT.of (s' _ _ h2)) ?_ ?_⟩
  · rintro i x T σ H' hx ⟨al, v3, v4, rfl, s', e', la', did⟩ hT
    have hi : i < on.length := by have := (List.getElem?_eq_some_iff.mp hx).1; rwa [hl] at this
    obtain rfl : x = .int (lk on (i : Int)) := by
      rw [List.getElem?_map, show on[i]? = some (lk on (i : Int)) from lk_get (l := on) (x := (i : Int)) (by simpa using hi)] at hx
      exact (Option.some.inj hx).symm
    have gb : InR on.length (lk on (i : Int)) := sk.lkR ⟨by omega, by omega⟩
    have nT : la ≠ T := ne_of_none e' hT
    refine ⟨T, _, rfl, SqT.of upd_same, rfl, _, _, rfl, _, _, rfl, rfl, ?_⟩
    refine ⟨_, rfl, _, rfl, _, rfl, la, _, _, (lk on (i : Int)).toNat, rfl, rfl, by rw [upd_ne nT]; exact e', ?_, ?_⟩
    · exact ix_nat gb.1 (by rw [List.length_map, la']; exact gb.2)
    rw [set_int']
    refine ⟨_, _, _, rfl, same_set (s'.trans (same_put hT _)) fa, upd_same, by rw [List.length_set]; exact la', fun j hj hjn => ?_⟩
    rw [lk_set (by rw [la']; omega)]
    by_cases ej : (lk on (j : Int)).toNat = (lk on (i : Int)).toNat
    · have gj := sk.lkR (x := (j : Int)) ⟨by omega, by omega⟩
      have := sk.lkI (x := (j : Int)) (y := (i : Int)) ⟨by omega, by omega⟩ ⟨by omega, by omega⟩ (by omega)
      rw [if_pos ej]; exact this.symm
    · rw [if_neg ej]
      refine did j ?_ hjn
      rcases Nat.lt_or_ge j i with z | z
      · exact z
      · have : j = i := by omega
        subst this
        exact absurd rfl ej
  · rintro σ H' ⟨al, v3, v4, rfl, s', e', la', did⟩
    refine ⟨_, rfl, q la H' al s' fa e' ⟨la', fun x gx => ?_⟩⟩
    have ga := sk.ahR gx
    have := did (ahd on x).toNat (by rw [hl]; omega) (by omega)
    rw [show (((ahd on x).toNat : Nat) : Int) = ahd on x by omega, sk.lkA gx] at this
    exact this
theorem scWL : FnScope ["skin", "ahead", "first", "mates", "walk", "at"] ["skin", "ahead", "first"] (defScope s_walk_left) := ⟨rfl, rfl, rfl, by decide +kernel, rfl, by decide +kernel, by decide +kernel⟩
def spWL : Sp := fun vs H Q _ => ∃ (p la : Addr) (on al : List Int) (ms : List (Option Int)) (first : Int), vs = [.ref p, .ref la, .int first] ∧ SkAt H p on ms ∧ H la = some (.lst (al.map V.int)) ∧ AhL on al ∧ InR on.length first ∧
  ∀ r H', Same H H' → H r = none → H' r = some (.tup ((trl (lefM on ms) first on.length first).map V.int)) → Q (.ref r) H'
theorem ok_walk_left (B : Bi mg) (F : Fun K "walk_left" "walk_left" s_walk_left f fd) : FnOk P w K mg base CX0 1 f fd ["skin", "ahead", "first"] spWL := by
  refine F.ok scWL (fun vs H Q E h => ?_) (fun cdv A outer s H vs Q E hr h => ?_)
  · obtain ⟨p, la, on, al, ms, first, rfl, _⟩ := h; rfl
  obtain ⟨p, la, on, al, ms, first, rfl, ⟨sk, po, pm, h1, h2, h3⟩, ha, AL, g, q⟩ := h
  have hle := sk.le
  obtain ⟨tr, _, rg, len⟩ := trl_ex (f := lefM on ms) (fun x y gx e => sk.lefR gx e) (fun x y z gx gy a b => sk.lefI gx gy a b) g
  generalize trl (lefM on ms) first on.length first = W at tr rg len q
  have atA : ∀ x, InR on.length x → atI (al.map V.int) x = some (.int (ahd on x)) := fun x gx => by rw [at_lk gx.1 (by rw [AL.len]; exact gx.2), AL.is x gx]
  have atM : ∀ x, InR on.length x → atI (ms.map mV) (ahd on x) = some (mV (lefM on ms x)) := fun x gx => at_lkM (sk.ahR gx).1 (by rw [sk.len]; exact (sk.ahR gx).2)
  refine ⟨_, (pss_cons (ps_set (i := 3) scWL.nd rfl (Or.inl rfl) (pe_ix ix_tup (pv 0) pe_int (fun _ _ => rfl)))
   (pss_cons (ps_set (i := 4) scWL.nd rfl (Or.inl rfl) (pe_lst (pa_cons (pv 2) pa_nil)))
   (pss_cons (ps_set (i := 5) scWL.nd rfl (Or.inl rfl) (pe_ix ix_tup (pv 3) (pe_ix ix_list (pv 1) (pv 2) (fun _ _ => rfl)) (fun _ _ => rfl)))
   (pss_cons (ps_while PassesOwn.never (PW.pt (pw_and (pt_cmpR op_notN (pv 5) pe_non (nomark _)) (pw_and1 (pt_cmpR op_ne (pv 5) (pv 2) (nomark _)))))
   (pss_cons (ps_expr (pe_bm PySem.F.plainAttrs_list PySem.F.slot_list_append PySem.F.type_list_append mt_append (pv 4) (pa_cons (pv 5) pa_nil)))
   (pss_one (ps_set (i := 5) scWL.nd rfl (Or.inl rfl) (pe_ix ix_tup (pv 3) (pe_ix ix_list (pv 1) (pv 5) (fun _ _ => rfl)) (fun _ _ => rfl))))))
   (pss_one (ps_ret (pe_callTy call_tuple_of rfl B.tuple_ bt_tuple (pa_cons (pv 4) pa_nil)))))))), ?_⟩
  refine ⟨_, rfl, p, _, _, .ref pm, rfl, rfl, SqT.of h1, at1 _ _ _, _, rfl, (by show 1 ≤ sizeLine; decide), fun lw hlw => ?_⟩
  refine ⟨_, rfl, _, rfl, _, rfl, la, _, _, _, rfl, rfl, SqL.of (up hlw ha), atA first g, pm, _, _, _, rfl, rfl, SqT.of (up hlw h3), atM first g, ?_⟩
  refine ⟨fun m σ H' => ∃ (pre rest : List Int) (a : Option Int), m = rest.length ∧ σ = [some (.ref p), some (.ref la), some (.int first), some (.ref pm), some (.ref lw), some (mV a)] ∧ Same H H' ∧ H' lw = some (.lst (pre.map V.int)) ∧ W = pre ++ rest ∧
      ((rest = [] ∧ (a = none ∨ a = some first)) ∨ ∃ y, a = some y ∧ Trail (lefM on ms) first y rest ∧ y ≠ first), ?_, ?_⟩
  · rcases trail_two tr with ⟨e, h⟩ | ⟨y, r, e, hy, ne, t⟩
    · exact ⟨_, [first], [], lefM on ms first, rfl, rfl, same_put hlw _, upd_same, e, .inl ⟨rfl, h⟩⟩
    · exact ⟨_, [first], r, lefM on ms first, rfl, rfl, same_put hlw _, upd_same, e, .inr ⟨y, hy, t, ne⟩⟩
  rintro m σ H' ⟨pre, rest, a, rfl, rfl, sm, hw, eP, hc⟩
  have pl : pre.length + rest.length ≤ 400 := by rw [← List.length_append, ← eP]; omega
  have fin : rest = [] → tRet (tCB (fun xs H Q => ∃ p ys, xs = [.ref p] ∧ ((SqL K H p ys ∧ ∀ l, H l = none → Q (.ref l) (upd H l (.tup ys))) ∨ (SqT K H p ys ∧ Q (.ref p) H))) (tCons (tVar 4) tNil)) { nx := fun _ H' => Q .non H', rt := Q } [some (.ref p), some (.ref la), some (.int first), some (.ref pm), some (.ref lw), some (mV a)] H' := fun er => by
    rw [er, List.append_nil] at eP
    refine ⟨_, rfl, lw, _, rfl, .inl ⟨SqL.of hw, fun r hr => ?_⟩⟩
    refine q r _ (sm.trans (same_put hr _)) (sm.free hr) ?_
    rw [upd_same, eP]
  cases a with
  | none =>
    have er : rest = [] := by
      rcases hc with ⟨z, _⟩ | ⟨y, z, _⟩
      · exact z
      · cases z
    exact ⟨_, rfl, rfl, _, rfl, itN rfl (itN rfl (fin er))⟩
  | some y =>
    refine ⟨_, rfl, rfl, _, rfl, itP rfl ⟨_, rfl, _, rfl, rfl, _, rfl, ite2 (fun c => ?_) (fun c => ?_)⟩⟩
    · have c : y ≠ first := by simpa [mV] using c
      obtain ⟨t, ne⟩ : Trail (lefM on ms) first y rest ∧ y ≠ first := by
        rcases hc with ⟨_, z | z⟩ | ⟨y', z, t, ne⟩
        · cases z
        · exact absurd (Option.some.inj z) c
        · cases z; exact ⟨t, ne⟩
      refine ⟨_, fun _ _ z => z, ?_⟩
      have gy : InR on.length y := rg y (by rw [eP]; obtain ⟨r', e'⟩ := t.head; rw [e']; simp)
      refine ⟨_, rfl, .inl ⟨rfl, _, SqL.of hw⟩, _, rfl, lw, _, _, rfl, rfl, hw, ?_, ?_⟩
      · rw [List.length_map, sizeLine_eq]; omega
      have sm' : Same H (upd H' lw (.lst (pre.map V.int ++ [mV (some y)]))) := same_set sm hlw
      refine ⟨_, rfl, _, rfl, _, rfl, la, _, _, _, rfl, rfl, SqL.of (sm' _ _ ha), atA y gy, pm, _, _, _, rfl, rfl, SqT.of (sm' _ _ h3), atM y gy, ?_⟩
      have hw' : upd H' lw (.lst (pre.map V.int ++ [mV (some y)])) lw = some (.lst ((pre ++ [y]).map V.int)) := by rw [upd_same, List.map_append]; rfl
      rcases trail_two t with ⟨e, h⟩ | ⟨y2, r, e, hy, ne, t'⟩
      · exact ⟨0, by rw [e]; simp, pre ++ [y], [], lefM on ms y, rfl, rfl, sm', hw', by rw [eP, e]; simp, .inl ⟨rfl, h⟩⟩
      · exact ⟨r.length, by rw [e]; simp, pre ++ [y], r, lefM on ms y, rfl, rfl, sm', hw', by rw [eP, e]; simp, .inr ⟨y2, hy, t', ne⟩⟩
    · have c : y = first := by simpa [mV] using c
      have er : rest = [] := by
        rcases hc with ⟨z, _⟩ | ⟨y', z, t, ne⟩
        · exact z
        · cases z; exact absurd c ne
      exact fin er
def gKnot : List Int → List (Option Int) → Int → List Int := knotL
theorem scRim : FnScope ["skin", "half", "walk", "at", "onward", "mates"] ["skin", "half"] (defScope s_rim_of) := ⟨rfl, rfl, rfl, by decide +kernel, rfl, by decide +kernel, by decide +kernel⟩
def spRim (cN cR : Addr) : Sp := fun vs H Q E => ∃ (p : Addr) (on : List Int) (ms : List (Option Int)) (half : Int), vs = [.ref p, .int half] ∧ SkAt H p on ms ∧ half.natAbs.log2 < 1920 ∧
  (InR on.length half → lkM ms half = none → ∀ r H', Same H H' → H r = none → H' r = some (.tup ((rimL on ms half).map V.int)) → Q (.ref r) H') ∧ (InR on.length half → lkM ms half ≠ none → E (.ref cR) none H) ∧ (¬ InR on.length half → E (.ref cN) none H)
theorem ok_rim_of (B : Bi mg) (own : OwnE K cR) (hR : mg "NoRim" = some (.ref cR)) (FC : FnX P w K mg base "check_half" ["skin", "half"] 1 (spCheck K cN)) (FF : Fn P w K mg base "first_of_knot" ["skin", "half"] 3 spFst) (F : Fun K "rim_of" "rim_of" s_rim_of f fd) : FnOk P w K mg base (CXf P w) 4 f fd ["skin", "half"] (spRim cN cR) := by
  refine FunX.ok F scRim (fun vs H Q E h => ?_) (fun cdv A outer s H vs Q E hr h G => ?_)
  · obtain ⟨p, on, ms, half, rfl, _⟩ := h; rfl
  obtain ⟨p, on, ms, half, rfl, S, hb, q1, q2, q3⟩ := h
  obtain ⟨sk, po, pm, h1, h2, h3⟩ := id S
  have hl : (on.map V.int).length = on.length := List.length_map _
  have hle := sk.le
  refine ⟨_, (pss_cons (ps_expr (pe_callX FC hr (by decide) G (pa_cons (pv 0) (pa_cons (pv 1) pa_nil))))
   (pss_cons (ps_asg (pv 0) (pg_tup rfl (pgs_cons (pg_name (i := 4) scRim.nd rfl (Or.inl rfl)) (pgs_cons (pg_name (i := 5) scRim.nd rfl (Or.inl rfl)) pgs_nil))))
   (pss_cons (ps_if (pt_cmpR op_notN (pe_ix ix_tup (pv 5) (pv 1) (fun _ _ => rfl)) pe_non (nomark _))
   (pss_one (ps_raise rfl own hR G (pa_cons (pe_fstr (pj_raw pe_str (pj_int (pv 1) (pj_raw pe_str pj_nil)))) pa_nil)))
   pss_nil)
   (PSs.nox (pss_cons (ps_set (i := 2) scRim.nd rfl (Or.inl rfl) (pe_lst (pa_cons (pv 1) pa_nil)))
   (pss_cons (ps_set (i := 3) scRim.nd rfl (Or.inl rfl) (pe_callXn (fnX FF) hr (by decide) (pa_cons (pv 0) (pa_cons (pe_ix ix_tup (pv 4) (pv 1) (fun _ _ => rfl)) pa_nil))))
   (pss_cons (ps_while PassesOwn.never (pt_cmpR op_ne (pv 3) (pv 1) (nomark _))
   (pss_cons (ps_expr (pe_bm PySem.F.plainAttrs_list PySem.F.slot_list_append PySem.F.type_list_append mt_append (pv 2) (pa_cons (pv 3) pa_nil)))
   (pss_one (ps_set (i := 3) scRim.nd rfl (Or.inl rfl) (pe_callXn (fnX FF) hr (by decide) (pa_cons (pv 0) (pa_cons (pe_ix ix_tup (pv 4) (pv 3) (fun _ _ => rfl)) pa_nil)))))))
   (pss_one (ps_ret (pe_callTy call_tuple_of rfl B.tuple_ bt_tuple (pa_cons (pv 2) pa_nil))))))))))), ?_⟩
  refine ⟨_, rfl, _, rfl, p, po, _, _, half, rfl, SqT.of h1, SqT.of h2, hb, fun g => ?_, fun g => q3 (by rw [hl] at g; exact g)⟩
  rw [hl] at g
  refine ⟨_, rfl, p, _, rfl, SqT.of h1, rfl, _, _, rfl, _, _, rfl, rfl, ?_⟩
  refine ⟨_, rfl, _, rfl, pm, _, _, _, rfl, rfl, SqT.of h3, at_lkM g.1 (by rw [sk.len]; exact g.2), rfl, _, rfl, ite2 (fun c => ?_) (fun c => ?_)⟩
  · have c : lkM ms half ≠ none := fun z => by rw [z] at c; exact absurd c (by decide)
    exact ⟨_, rfl, by decide, _, rfl, _, rfl, hb, _, rfl, by decide, fun txt => ⟨(by show 1 ≤ 100; decide), q2 g c⟩⟩
  have e0 : lkM ms half = none := by
    cases z : lkM ms half with
    | none => rfl
    | some m => rw [z] at c; exact absurd rfl c
  have q := q1 g e0
  obtain ⟨tr, _, rg, len⟩ := sk.rim g
  have fr := sk.rim_free g e0
  have stp : ∀ x, lkM ms x = none → rimF on ms x = some (fstK on ms (lk on x)) := fun x hx => by unfold rimF; rw [if_pos hx]
  refine ⟨_, rfl, (by show 1 ≤ sizeLine; decide), fun lw hlw => ?_⟩
  refine ⟨_, rfl, _, rfl, _, rfl, po, _, _, _, rfl, rfl, SqT.of (up hlw h2), at_lk g.1 g.2, p, on, ms, _, rfl, S.same (same_put hlw _), sk.lkR g, ?_⟩
  refine ⟨fun m σ H' => ∃ (pre rest : List Int) (a : Int), m = rest.length ∧ σ = [some (.ref p), some (.int half), some (.ref lw), some (.int a), some (.ref po), some (.ref pm)] ∧ Same H H' ∧ H' lw = some (.lst (pre.map V.int)) ∧ rimL on ms half = pre ++ rest ∧
      ((rest = [] ∧ a = half) ∨ (Trail (rimF on ms) half a rest ∧ a ≠ half)), ?_, ?_⟩
  · rcases trail_two tr with ⟨e, h⟩ | ⟨y, r, e, hy, ne, t⟩
    · refine ⟨_, [half], [], _, rfl, rfl, same_put hlw _, upd_same, e, .inl ⟨rfl, ?_⟩⟩
      rw [stp half e0] at h
      rcases h with h | h
      · cases h
      · exact Option.some.inj h
    · rw [stp half e0] at hy
      obtain rfl := Option.some.inj hy
      exact ⟨_, [half], r, _, rfl, rfl, same_put hlw _, upd_same, e, .inr ⟨t, ne⟩⟩
  rintro m σ H' ⟨pre, rest, a, rfl, rfl, sm, hw, eP, hc⟩
  have pl : pre.length + rest.length ≤ 400 := by rw [← List.length_append, ← eP]; omega
  refine ⟨_, rfl, _, rfl, rfl, _, rfl, ite2 (fun c => ?_) (fun c => ?_)⟩
  · have c : a ≠ half := by simpa using c
    rcases hc with ⟨_, z⟩ | ⟨t, _⟩
    · exact absurd z c
    refine ⟨_, fun _ _ z => z, ?_⟩
    have ga : InR on.length a ∧ lkM ms a = none := fr a (by rw [eP]; obtain ⟨r', e'⟩ := t.head; rw [e']; simp)
    refine ⟨_, rfl, .inl ⟨rfl, _, SqL.of hw⟩, _, rfl, lw, _, _, rfl, rfl, hw, ?_, ?_⟩
    · rw [List.length_map, sizeLine_eq]; omega
    have sm' : Same H (upd H' lw (.lst (pre.map V.int ++ [.int a]))) := same_set sm hlw
    refine ⟨_, rfl, _, rfl, _, rfl, po, _, _, _, rfl, rfl, SqT.of (sm' _ _ h2), at_lk ga.1.1 ga.1.2, p, on, ms, _, rfl, S.same sm', sk.lkR ga.1, ?_⟩
    have hw' : upd H' lw (.lst (pre.map V.int ++ [.int a])) lw = some (.lst ((pre ++ [a]).map V.int)) := by rw [upd_same, List.map_append]; rfl
    rcases trail_two t with ⟨e, h⟩ | ⟨y, r, e, hy, ne, t'⟩
    · refine ⟨0, by rw [e]; simp, pre ++ [a], [], _, rfl, rfl, sm', hw', by rw [eP, e]; simp, .inl ⟨rfl, ?_⟩⟩
      rw [stp a ga.2] at h
      rcases h with h | h
      · cases h
      · exact Option.some.inj h
    · rw [stp a ga.2] at hy
      obtain rfl := Option.some.inj hy
      exact ⟨r.length, by rw [e]; simp, pre ++ [a], r, _, rfl, rfl, sm', hw', by rw [eP, e]; simp, .inr ⟨t', ne⟩⟩
  · have c : a = half := by simpa using c
    have er : rest = [] := by
      rcases hc with ⟨z, _⟩ | ⟨_, z⟩
      · exact z
      · exact absurd c z
    rw [er, List.append_nil] at eP
    refine ⟨_, rfl, lw, _, rfl, .inl ⟨SqL.of hw, fun r hr => ?_⟩⟩
    refine q r _ (sm.trans (same_put hr _)) (sm.free hr) ?_
    show upd H' r (.tup (pre.map V.int)) r = some (.tup ((rimL on ms half).map V.int))
    rw [upd_same, eP]
end
end Hs
set_option Elab.async false
set_option linter.all false
set_option maxRecDepth 100000
set_option maxHeartbeats 1000000
namespace Hs
open PySem PySem.Spec PySem.Calls PyProof.Rows L2
def Bmain (mg : Str → Option Value) (h : Heap) : Prop := ∃ bm ob, mg "__builtins__" = some (.ref bm) ∧ bm ≠ builtinsNs ∧ h.get? bm = some ob ∧ ob.cls = .type "module" ∧ ob.dict = some builtinsNs ∧ ob.data = .plain
def CodeOf (H : Hp) (c' : Addr) (lq : Str) : Prop := ∃ oc vs t, H c' = some (.frz oc (.own 0)) ∧ oc.data = .fields vs ∧ vs[1]? = some (.str lq t)
def LamTab (pos : Pos) (lq : Str) (H : Hp) (P : Addr) : Prop :=
  ∃ ps, H P = some (.tbl ps) ∧ TriplesOk ps.toList ∧ (codeAmong pos ps.toList = none ∨ ∃ c', codeAmong pos ps.toList = some (.ref c') ∧ CodeOf H c' lq)
theorem tri_snoc : ∀ (l : List Value) (a b : Int) (t u : Tok) (c : Value), TriplesOk l → TriplesOk (l ++ [.int a t, .int b u, c])
  | [], _, _, _, _, _, _ => trivial
  | .int _ _ :: .int _ _ :: _ :: r, a, b, t, u, c, h => tri_snoc r a b t u c h
def lamObj (mg : Str → Option Value) (env : Env) (params : Arguments) (body : Expr) (scope : Scope) (c' : Addr) (ctv : Value) : Obj :=
  PySem.W.kla_obj "<lambda>" (env.qual ++ "<lambda>") params body scope (cloFrom env.cells scope.names []) ((mg "__name__").getD .none) c' ctv
def tLam (mg : Str → Option Value) (env : Env) (params : Arguments) (body : Expr) (scope : Scope) (pos : Pos) (P : Addr) : TE := fun σ H Q => LamTab pos (env.qual ++ "<lambda>") H P ∧
  ∀ f c' ctv H', LamTab pos (env.qual ++ "<lambda>") H' P → CodeOf H' c' (env.qual ++ "<lambda>") → H f = none → H' f = some (.frz (lamObj mg env params body scope c' ctv) (.own 0)) → (∀ b o, b ≠ P → H b = some o → H' b = some o) → Q (.ref f) H'
section
variable {X : Cx}
theorem pe_lam {params : Arguments} {body : Expr} {scope : Scope} {pos : Pos} {c P : Addr} (hdef : defaultsOf params X.env = ([], [])) (hcl : ∀ y ∈ scope.names, y.2 = .free → ∃ cc, X.env.cells.lookup y.1 = some cc)
    (hcode : X.env.code = .ref c) (C : PySem.W.CodeHd X.base c P) (Bm : Bmain X.mg X.base) : PE X (.Lambda params body scope pos) (tLam X.mg X.env params body scope pos P) := by
  intro pins s σ H Q I h
  obtain ⟨⟨ps, hP, ht, hc⟩, q⟩ := h
  refine PySem.W.kla_eval hdef ?_
  have hgs := I.mod.glob.keeps I.bk
  have oP : s.heap.get? P = some { cls := .none, data := .fields ps } := I.hok P _ hP
  obtain ⟨bm, ob, b1, b2, b3, b4, b5, b6⟩ := Bm
  have hbP : bm ≠ P := fun z => by
    have e := I.bk _ _ b3
    rw [z, oP] at e; cases e; cases b4
  have hbG : bm ≠ mainGlobals := fun z => by
    obtain ⟨o, es, ep, e, hd, _⟩ := I.mod.glob
    rw [z, e] at b3; cases b3; rw [hd] at b6; cases b6
  have hgP : mainGlobals ≠ P := fun z => by
    obtain ⟨o, es, ep, e, hd, _⟩ := hgs
    rw [z, oP] at e; cases e; cases hd
  have hB : s.heap.BuiltinsAt X.mg P := ⟨bm, ob, b1, b2, hbG, hbP, I.bk _ _ b3, b4, b5, b6⟩
  have nP : ∀ b, H b = none → b ≠ P := fun b e z => by rw [z, hP] at e; cases e
  rcases hc with hc | ⟨c0, hc, K0⟩
  · refine PySem.W.kla_makeFunction (mg := X.mg) (closure_ok hcl) I.ok.glob hgs hcode (C.keeps I.bk) oP ht hc hgP hB fun c' ctv h' tk hx hge hlt hrec htb => ?_
    obtain ⟨c2, oc, vs, t, e2, hoc, hd, hv⟩ := hrec
    cases e2
    have sz : s.heap.objs.size ≤ h'.objs.size := Nat.le_of_lt (Nat.lt_of_le_of_lt hge hlt)
    have fc : H c' = none := I.hok.fresh hge
    have ff : H h'.objs.size = none := I.hok.fresh sz
    have ncf : c' ≠ h'.objs.size := Nat.ne_of_lt hlt
    have nPc : P ≠ c' := fun z => by rw [z, fc] at hP; cases hP
    have nPf : P ≠ h'.objs.size := fun z => by rw [z, ff] at hP; cases hP
    let H1 := upd (upd (upd H P (.tbl (ps ++ #[rawInt pos.line, rawInt pos.col, .ref c']))) c' (.frz oc (.own 0))) h'.objs.size (.frz (lamObj X.mg X.env params body scope c' ctv) (.own 0))
    have out : ∀ b, b ≠ P → b ≠ c' → b ≠ h'.objs.size → H1 b = H b := fun b z1 z2 z3 => by
      show upd _ _ _ b = _
      rw [upd_ne z3, upd_ne z2, upd_ne z1]
    have at1 : H1 h'.objs.size = some (.frz (lamObj X.mg X.env params body scope c' ctv) (.own 0)) := upd_same
    have at2 : H1 c' = some (.frz oc (.own 0)) := by show upd _ _ _ c' = _; rw [upd_ne ncf, upd_same]
    have at3 : H1 P = some (.tbl (ps ++ #[rawInt pos.line, rawInt pos.col, .ref c'])) := by show upd _ _ _ P = _; rw [upd_ne nPf, upd_ne nPc, upd_same]
    have some' : ∀ b o, b ≠ P → H b = some o → H1 b = some o := fun b o z e => by
      rw [out b z (fun y => by rw [y, fc] at e; cases e) (fun y => by rw [y, ff] at e; cases e)]; exact e
    have kp : ∀ b o, b ≠ P → s.heap.get? b = some o → (h'.push (lamObj X.mg X.env params body scope c' ctv)).get? b = some o := fun b o z e => Heap.get?_push_of_some _ (hx b o z e)
    refine ⟨.ref h'.objs.size, H1, ?_, rfl, q _ c' ctv H1 ⟨_, at3, ?_, .inr ⟨c', ?_, oc, vs, t, at2, hd, hv⟩⟩ ⟨oc, vs, t, at2, hd, hv⟩ ff at1 some'⟩
    · refine I.step (g' := s.gens) (d' := s.drawn) (ch := []) (fun _ z => nomatch z) (fun b o _ _ _ e n => kp b o (nP b n) e) (fun b o _ _ _ e n => ⟨o.slots, kp b o (nP b n) e⟩) (fun b o _ e n => ?_) (fun b o _ e => ?_) (fun b xs e => ?_) (fun b o u e => ?_) (fun b qs e => ?_) (fun m hm => ?_) (fun b u e => ?_) I.bare
      · have lt := Heap.lt_size e
        rw [out b (nP b n) (fun z => by rw [z] at lt; exact absurd (Nat.lt_of_lt_of_le lt hge) (Nat.lt_irrefl _)) (fun z => by rw [z] at lt; exact absurd (Nat.lt_of_lt_of_le lt sz) (Nat.lt_irrefl _))]
        exact n
      · by_cases z : b = P
        · rw [z]; exact ⟨_, Heap.get?_push_of_some _ htb⟩
        · exact ⟨o, kp b o z e⟩
      · exact some' b _ (fun z => by rw [z, hP] at e; cases e) e
      · exact some' b _ (fun z => by rw [z, hP] at e; cases e) e
      · by_cases z : b = P
        · rw [z, hP] at e; cases e; exact ⟨_, z ▸ at3⟩
        · exact ⟨#[], by rw [some' b _ z e]; simp⟩
      · obtain ⟨o, es, ep, ho, r⟩ := hm
        exact ⟨o, es, ep, kp _ o (nP _ I.free) ho, r⟩
      · by_cases z1 : b = h'.objs.size
        · subst z1
          rw [at1] at e; cases e
          exact ⟨Heap.get?_push_size _ rfl, _, Heap.get?_push_size _ rfl⟩
        by_cases z2 : b = c'
        · subst z2
          rw [at2] at e; cases e
          exact ⟨Heap.get?_push_of_some _ hoc, _, Heap.get?_push_of_some _ hoc⟩
        by_cases z3 : b = P
        · subst z3
          rw [at3] at e; cases e
          exact Heap.get?_push_of_some _ htb
        rw [out b z3 z2 z1] at e
        refine (I.hok b u e).stay (fun d v hd2 r => kp d v (fun z => ?_) r) (fun d r => some' d _ (fun z => by rw [z, hP] at r; cases r) r) fun d xs r => some' d _ (fun z => by rw [z, hP] at r; cases r) r
        rcases hd2 with y | y
        · exact z3 (y ▸ z)
        · rw [z, hP] at y; cases y
    · rw [Array.toList_append]; exact tri_snoc _ _ _ _ _ _ ht
    · rw [Array.toList_append]; exact codeAmong_snoc _ ht hc
  · obtain ⟨oc, vs, t, k1, k2, k3⟩ := K0
    refine PySem.W.kla_makeFunctionHit (mg := X.mg) (closure_ok hcl) I.ok.glob hgs hcode (C.keeps I.bk) oP ht hc hB fun ctv h' tk hk hsz => ?_
    have ff : H h'.objs.size = none := I.hok.fresh hsz
    have some' : ∀ b o, H b = some o → upd H h'.objs.size (.frz (lamObj X.mg X.env params body scope c0 ctv) (.own 0)) b = some o := fun b o e => by
      rw [upd_ne (ne_of_none e ff)]; exact e
    refine ⟨.ref h'.objs.size, upd H h'.objs.size (.frz (lamObj X.mg X.env params body scope c0 ctv) (.own 0)), ?_, rfl, q _ c0 ctv _ ⟨ps, some' _ _ hP, ht, .inr ⟨c0, hc, oc, vs, t, some' _ _ k1, k2, k3⟩⟩ ⟨oc, vs, t, some' _ _ k1, k2, k3⟩ ff upd_same fun b o _ e => some' b o e⟩
    exact I.laid (fun b u e => Heap.get?_push_of_some _ (hk b u e)) hsz ⟨Heap.get?_push_size _ rfl, _, Heap.get?_push_size _ rfl⟩
end
end Hs
set_option Elab.async false
set_option linter.all false
set_option maxRecDepth 100000
set_option maxHeartbeats 1000000
namespace Hs
open PySem PySem.Spec PySem.Calls PyProof.Rows L2
structure Callable (P : Program) (w : World) (K : PySem.W.Frag) (mg : Str → Option Value) (base : Heap) (k : Nat) (outer : List Env) (s : Shared) (H : Hp) (f : Addr) (dom : Int → Prop) (g : Int → List Int) : Prop where
  fn : ∃ o fd, H f = some (.frz o (.own 0)) ∧ o.data = .func fd
  run : ∀ (A : Around) (outer' : List Env) (s' : Shared) (H' : Hp) (h : Int) (t : Tok) (Q : VK), Room k A → Env0 P w K mg base A outer' s' H' →
    (∀ b o, s.heap.get? b = some o → H b = none → b ∉ frs outer → s'.heap.get? b = some o ∧ H' b = none) → Same H H' → dom h → (∀ r H2, Same H' H2 → H' r = none → H2 r = some (.tup ((g h).map V.int)) → Q (.ref r) H2) →
    codeAny (model P w) A (.call (.ref f) ⟨[.int h t], []⟩) (CR CX0 outer' P w H' s' Q E0) s'
section
variable {X : Cx}
def tCallV (H0 : Hp) (f : Addr) (i : Nat) (dom : Int → Prop) (g : Int → List Int) (t : TA) : TE := fun σ H Q => σ[i]? = some (some (.ref f)) ∧ Same H0 H ∧ t σ H fun vs H1 => ∃ h, vs = [.int h] ∧ Same H0 H1 ∧ dom h ∧ ∀ r H2, Same H1 H2 → H1 r = none → H2 r = some (.tup ((g h).map V.int)) → Q (.ref r) H2
theorem pe_callV {k j i : Nat} {f : Addr} {dom : Int → Prop} {g : Int → List Int} {x : Str} {p pos : Pos} {ar : Expr} {t : TA} (Cb : Callable X.prog X.w X.K X.mg X.base k X.outer X.s_0 X.H_0 f dom g) (hex : X.ex = []) (hr : Room j X.A) (hk : k ≤ j)
    (hi : X.N[i]? = some x) (hx : X.env.scope.names.lookup x = some .local) (ha : PA X [ar] t) (hdb : (x == ("__debug__" : Str)) = false := by decide) (he : starEach [ar] X.env = [(false, eval ar X.env)] := by rfl) :
    PE X (.Call (.Name x p) [ar] [] pos) (tCallV X.H_0 f i dom g t) := by
  intro pins s σ H Q I h
  obtain ⟨hv, sm, h⟩ := h
  obtain ⟨m, hn, hl⟩ := I.loc
  obtain ⟨u, r, l⟩ := hl i x _ hi hv (.inl hx)
  cases r
  have hkf : X.env.kindOf x = some .local := hx
  have lm : m x = some (.ref f) := by
    rcases l with ⟨_, e⟩ | ⟨z, _⟩
    · exact e
    · rw [hkf] at z
      rcases z with z | z <;> cases z
  have fnAt : ∀ {pins : List (Addr × Obj)} {σ : L2.St} {H : Hp} {s : Shared}, L2.Inv X pins σ H s → Same X.H_0 H → PySem.W.FnAt f s.heap := fun {pins σ H s} I sm => by
    obtain ⟨⟨oc, od, dt, sl⟩, fd, e1, e2⟩ := Cb.fn
    obtain ⟨e3, _⟩ := (show ObjOk X.prog X.w H s.heap f (.frz ⟨oc, od, dt, sl⟩ (.own 0)) from I.hok f _ (sm _ _ e1))
    have e2 : dt = .func fd := e2
    subst e2
    exact ⟨oc, od, fd, sl, e3⟩
  refine wpAny_Call_Name_kw (wpAny_Name (wpAny_loadName_local I.ok.kind hkf hn lm ?_) hdb)
  refine PySem.W.callWith_F (fnAt I sm) (thn (ha pos pins s σ H _ I h) fun us s1 ⟨vs, H1, I1, r, hh, e, sm1, hd, q⟩ => ⟨fnAt I1 sm1, ?_⟩) he rfl
  subst e
  obtain ⟨u1, rfl, ru⟩ := vals1 r
  obtain ⟨t, rfl⟩ := ru
  refine wpAny_call (codeAny_mono (Cb.run X.A X.stack s1 H1 hh t Q (hr.mono hk) I1.env0 (fun b o e n hb => ⟨I1.base.keep b o e n hb (by rw [hex]; simp), I1.base.free b o e n (by rw [hex]; simp)⟩) sm1 hd q) fun rr s' hq => ?_)
  cases rr with
  | error e => exact False.elim hq
  | ok fl =>
    cases fl with
    | ret u => exact I1.after hq
    | next => exact False.elim hq
    | brk => exact False.elim hq
    | cont => exact False.elim hq
end
abbrev SpS := Shared → List Env → List V → Hp → VK → Prop
structure FnS (P : Program) (w : World) (K : PySem.W.Frag) (mg : Str → Option Value) (base : Heap) (x : Str) (ps : List Str) (k : Nat) (sp : SpS) : Prop where
  ex : ∃ f fd, (∀ s o vs H Q, sp s o vs H Q → vs.length = ps.length) ∧ (∀ (A : Around) (outer : List Env) (s : Shared) (H : Hp) (args : Args) (us : List Value) (vs : List V) (Q : VK), Room k A → Env0 P w K mg base A outer s H → BindsTo s fd args (ps.zip us) → Vals vs us → sp s outer vs H Q →
    codeAny (model P w) A (.call (.ref f) args) (CR CX0 outer P w H s Q E0) s) ∧ Binds K fd ps [] ∧ PySem.W.keepIn K (.ref f) = true ∧ mg x = some (.ref f)
theorem fnS_of {P : Program} {w : World} {K : PySem.W.Frag} {mg : Str → Option Value} {base : Heap} {x qual : Str} {st : Stmt} {f : Addr} {fd : FuncData} {N ps : List Str} {k : Nat} {sp : SpS} (F : Fun K x qual st f fd) (S : FnScope N ps (defScope st)) (b : Binds K fd ps []) (m : mg x = some (.ref f))
    (len : ∀ s o vs H Q, sp s o vs H Q → vs.length = ps.length)
    (hbody : ∀ (cdv : Value) (A : Around) (outer : List Env) (s : Shared) (H : Hp) (vs : List V) (Q : VK), Room k (A.deeper (envOfC qual (defScope st) s.heap.objs.size f cdv)) → sp s outer vs H Q →
      ∃ t, PSs (cxOf CX0 P w K mg base N qual (defScope st) f cdv A outer s H E0).nox (defBody st) t ∧ t { nx := fun _ H' => Q .non H', rt := Q } (start N vs) H) : FnS P w K mg base x ps (k + 1) sp := by
  refine ⟨f, fd, len, fun A outer s H args us vs Q hr e0 hb r hsp => ?_, b, F.kp, m⟩
  obtain ⟨oc, od, kV, doc, pm, an, cdv, ct, osl, rfl, lk, hcd⟩ := F.ex
  have hl := len _ _ _ _ _ hsp
  have KX : K.In s.heap := e0.mod.kin.keeps fun b o e => (e0.bs b o e).1
  have lim : s.heap.NoLimit := e0.mod.nolimit.keeps fun b o e => (e0.bs b o e).1
  have hkind : ∀ y ∈ ps.zip us, (defScope st).names.lookup y.1 = some .local ∨ ((defScope st).names.lookup y.1 = some .cell ∧ ((cellsFrom (s.heap.objs.size + 1) (defScope st).names []).lookup y.1).isSome = true) := fun ⟨n, v⟩ hy => by
    rcases S.par n (List.of_mem_zip hy).1 with q | q
    · exact .inl q
    · exact .inr ⟨q, PySem.W.cellsFrom_some _ _ _ (.inl q)⟩
  refine codeAny_call_function hr.depth (KX _ _ lk) rfl S.co S.gen rfl (PySem.W.codeRec_of KX hcd) (hb _ _ _ _ ?_)
  refine wpAny_newFunctionEnv_cells S.kind hkind fun env he s1 x => ?_
  subst he
  refine ⟨lim.keeps x.toInCall.keep, codeAny_func ?_⟩
  obtain ⟨t, ht, hq⟩ := hbody cdv A outer s H vs Q (hr.deeper _) hsp
  have I : L2.Inv (cxOf CX0 P w K mg base N qual (defScope st) f cdv A outer s H E0) [] (start N vs) H s1 := inv_start S hr.hd e0 hl r x
  refine wpAny_mono (ht.nox [] s1 (start N vs) H _ I hq) (fun fl s' hs => ?_) fun e s' hs => hs
  have fin : ∀ {σ' : L2.St} {H' : Hp} {v : V} {u : Value}, L2.Inv (cxOf CX0 P w K mg base N qual (defScope st) f cdv A outer s H E0) [] σ' H' s' → L2.RelV v u → Q v H' → CE outer P w H s Q u s' :=
    fun {σ' H' v u} J rv q => ⟨v, H', J.os, J.bare, J.base, J.hok, rv, q⟩
  cases fl with
  | ret u =>
    obtain ⟨v, σ', H', J, rv, q⟩ := hs
    exact fin J rv q
  | next =>
    obtain ⟨σ', H', J, q⟩ := hs
    exact fin (v := V.non) (u := Value.none) J rfl q
  | brk =>
    obtain ⟨_, _, _, q⟩ := hs
    exact False.elim q
  | cont =>
    obtain ⟨_, _, _, q⟩ := hs
    exact False.elim q
section
variable {X : Cx} {x : Str} {ps : List Str} {k j : Nat} {sp : SpS} {e : Expr} {es : List Expr} {t : TA} {p pos : Pos} {spH : L2.St → List V → Hp → VK → Prop}
def Conv (X : Cx) (sp : SpS) (spH : L2.St → List V → Hp → VK → Prop) : Prop := ∀ (pins : List (Addr × Obj)) (σ : L2.St) (H : Hp) (s : Shared) (vs : List V) (Q : VK), L2.Inv X pins σ H s → spH σ vs H Q → sp s X.stack vs H Q
def tCallS (spH : L2.St → List V → Hp → VK → Prop) (t : TA) : TE := fun σ H Q => t σ H fun vs H1 => spH σ vs H1 Q
theorem pe_callS (F : FnS X.prog X.w X.K X.mg X.base x ps k sp) (hr : Room j X.A) (hk : k ≤ j) (cv : Conv X sp spH) (ha : PA X (e :: es) t) (hg : Gl X x := by rfl) (hdb : (x == ("__debug__" : Str)) = false := by decide)
    (he : starEach (e :: es) X.env = (false, eval e X.env) :: starEach es X.env := by rfl) (hpl : (backTo pos (starEach es X.env)).any (·.1) = false := by rfl) : PE X (.Call (.Name x p) (e :: es) [] pos) (tCallS spH t) := by
  obtain ⟨f, fd, len, FO, b, kp, m⟩ := F.ex
  intro pins s σ H Q I h
  refine wpAny_Call_Name_kw (ld_glob I hg m ?_ hdb)
  refine PySem.W.callWith_K (h₀ := X.base) I.ok.mod.kin kp (thn (ha pos pins s σ H _ I h) fun us s1 ⟨vs, H1, I1, r, q⟩ => ⟨I1.kIn, ?_⟩) he hpl
  have q := cv pins σ H1 s1 vs Q I1 q
  have hl : us.length = ps.length := by rw [← r.length]; exact len _ _ _ _ _ q
  have hb := b s1 us I1.kIn (by rw [List.append_nil]; exact hl)
  rw [List.append_nil] at hb
  refine wpAny_call (codeAny_mono (FO X.A X.stack s1 H1 ⟨us, []⟩ us vs Q (hr.mono hk) I1.env0 hb r q) fun r s' hq => ?_)
  cases r with
  | error e => exact False.elim hq
  | ok fl =>
    cases fl with
    | ret u => exact I1.after hq
    | next => exact False.elim hq
    | brk => exact False.elim hq
    | cont => exact False.elim hq
end
end Hs
set_option Elab.async false
set_option linter.all false
set_option maxRecDepth 100000
set_option maxHeartbeats 1000000
namespace Hs
open PySem PySem.Spec PySem.Calls PyProof.Rows L2
def cxLam (P : Program) (w : World) (K : PySem.W.Frag) (mg : Str → Option Value) (base : Heap) (N : List Str) (env : Env) (A : Around) (outer : List Env) (s : Shared) (H : Hp) : Cx :=
  { prog := P, w := w, K := K, mg := mg, base := base, A := A.deeper env, N := N, s_0 := s, H_0 := H, env := env, outer := outer, stack := env :: outer, ex := [], fn := fun _ => false, calm := true, pn := [], xe := fun _ _ => False }
structure LamScope (scope : Scope) (p : Str) (fs : List Str) : Prop where
  kind : scope.kind = .function
  co : scope.isCoroutine = false
  gen : scope.isGenerator = false
  nocell : ∀ x ∈ scope.names, x.2 ≠ .cell
  par : scope.names.lookup p = some .local
  fr : ∀ y ∈ fs, scope.names.lookup y = some .free
def Cap (X : Cx) (σ : L2.St) (fs : List Str) (vs : List V) : Prop := vs.length = fs.length ∧ ∀ (j : Nat) (y : Str) (v : V), fs[j]? = some y → vs[j]? = some v → ∃ i : Nat, X.N[i]? = some y ∧ σ[i]? = some (some v) ∧ X.env.scope.names.lookup y = some .cell
theorem clo_at {cells : List (Str × Addr)} {names : List (Str × NameKind)} (hcl : ∀ y ∈ names, y.2 = .free → ∃ cc, cells.lookup y.1 = some cc) {y : Str} {c : Addr} (h : (cloFrom cells names []).lookup y = some c) : cells.lookup y = some c := by
  rcases cloFrom_mem (PySem.mem_of_lookup h) with z | ⟨h1, h2⟩
  · cases z
  · obtain ⟨cc, e⟩ := hcl _ h1 rfl
    have e : cells.lookup y = some cc := e
    rw [e] at h2 ⊢
    exact congrArg some h2.symm
theorem clo_has {cells : List (Str × Addr)} {names : List (Str × NameKind)} {acc : List (Str × Addr)} {y : Str} (h : (y, NameKind.free) ∈ names) : ∃ c, (y, c) ∈ cloFrom cells names acc := ⟨_, cloFrom_has h⟩
theorem lam_callable {X : Cx} {pins : List (Addr × Obj)} {σ : L2.St} {H : Hp} {s : Shared} {params : Arguments} {body : Expr} {scope : Scope} {c' f : Addr} {ctv : Value} {p : Str} {fs : List Str} {vs : List V} {k : Nat} {dom : Int → Prop} {g : Int → List Int}
    (I : L2.Inv X pins σ H s) (hfn : ∀ y, X.fn y = true) (S : LamScope scope p fs) (hcl : ∀ y ∈ scope.names, y.2 = .free → ∃ cc, X.env.cells.lookup y.1 = some cc) (cap : Cap X σ fs vs)
    (hf : H f = some (.frz (lamObj X.mg X.env params body scope c' ctv) (.own 0))) (hc : CodeOf H c' (X.env.qual ++ "<lambda>"))
    (hbind : ∀ u : Value, bindArgs (PySem.W.kla_fn "<lambda>" (X.env.qual ++ "<lambda>") params body scope (cloFrom X.env.cells scope.names []) ((X.mg "__name__").getD .none) (.ref c') ctv) ⟨[u], []⟩ = pure [(p, u)])
    (hbody : ∀ (A : Around) (outer' : List Env) (s' : Shared) (H' : Hp) (h : Int) (Q : VK), Room k (A.deeper (PySem.W.envX (X.env.qual ++ "<lambda>") scope s'.heap.objs.size f (.ref c') (cloFrom X.env.cells scope.names []))) → Same H H' → dom h → (∀ r H2, Same H' H2 → H' r = none → H2 r = some (.tup ((g h).map V.int)) → Q (.ref r) H2) →
      ∃ t, PE (cxLam X.prog X.w X.K X.mg X.base (p :: fs) (PySem.W.envX (X.env.qual ++ "<lambda>") scope s'.heap.objs.size f (.ref c') (cloFrom X.env.cells scope.names [])) A outer' s' H') body t ∧ t (some (.int h) :: vs.map some) H' Q) :
    Callable X.prog X.w X.K X.mg X.base (k + 1) X.stack s H f dom g := by
  refine ⟨⟨_, _, hf, rfl⟩, fun A outer' s' H' h t Q hr e0 kept same hd q => ?_⟩
  obtain ⟨of, _⟩ := (show ObjOk X.prog X.w H' s'.heap f (.frz _ (.own 0)) from e0.hok f _ (same _ _ hf))
  obtain ⟨oc, ws, tq, k1, k2, k3⟩ := hc
  obtain ⟨oc', _⟩ := (show ObjOk X.prog X.w H' s'.heap c' (.frz _ (.own 0)) from e0.hok c' _ (same _ _ k1))
  have lim : s'.heap.NoLimit := e0.mod.nolimit.keeps fun b o e => (e0.bs b o e).1
  refine PySem.W.kla_callFunE hr.depth of rfl S.co S.gen rfl ⟨c', oc, ws, tq, rfl, oc', k2, k3⟩ ?_
  rw [hbind]
  refine wpAny_pure (wpAny_newFunctionEnv S.nocell (fun x hx => ?_) (fun h₁ hns hsb => ⟨lim.fresh _ hsb, ?_⟩) S.kind)
  · have : x = (p, .int h t) := by simpa using hx
    rw [this]; exact S.par
  show codeAny _ _ (.expr body (PySem.W.envX (X.env.qual ++ "<lambda>") scope s'.heap.objs.size f (.ref c') (cloFrom X.env.cells scope.names []))) _ _
  have hk₁ : ∀ b o, s'.heap.get? b = some o → h₁.get? b = some o := fun b o e => hsb.extBut b o (Nat.ne_of_lt (Heap.lt_size e)) (Heap.get?_push_of_some _ e)
  obtain ⟨tt, pe, hq⟩ := hbody A outer' s' H' h Q (hr.deeper _) same hd q
  have nofr : ∀ y c, X.env.cells.lookup y = some c → c ∉ frs X.stack := fun y c e z => by
    rcases List.mem_cons.mp (I.stkSub c z) with z | z
    · exact I.cne y c e z
    · obtain ⟨_, o, ho, _⟩ := I.ok.funs.mem z
      exact absurd (Nat.lt_of_lt_of_le (Heap.lt_size ho) (I.ok.cab y c (hfn y) e)) (Nat.lt_irrefl _)
  have cellK : ∀ y c v, X.env.cells.lookup y = some c → s.heap.IsCell c v → h₁.IsCell c v ∧ H' c = none := fun y c v e ⟨o, ho, hd⟩ => by
    obtain ⟨a, b⟩ := kept c o ho (I.freeC y c e) (nofr y c e)
    exact ⟨⟨o, hk₁ _ _ a, hd⟩, b⟩
  have J : L2.Inv (cxLam X.prog X.w X.K X.mg X.base (p :: fs) (PySem.W.envX (X.env.qual ++ "<lambda>") scope s'.heap.objs.size f (.ref c') (cloFrom X.env.cells scope.names [])) A outer' s' H') [] (some (.int h) :: vs.map some) H' { s' with heap := h₁, toks := s'.toks + 1 } := by
    refine ⟨⟨e0.mod, S.kind, rfl, rfl, Nat.le_refl _, fun y z c h1 h2 => I.ok.inj y z c (clo_at hcl h1) (clo_at hcl h2), fun y hy => ?_, fun y c z => absurd z Bool.false_ne_true, fun _ => hr.hd, Around.frames_deeper e0.frames, .inr ⟨rfl, rfl⟩, fun b z => absurd z (by simp [cxLam]), e0.bs, e0.bsz, fun b _ _ => by simp [cxLam], fun b z => absurd z (by simp [cxLam]), e0.funs, e0.frf⟩,
      rfl, e0.bare, Un.kept hk₁, ⟨_, hns, fun i y v h1 h2 h3 => ?_⟩, fun y c e => ?_, e0.hok.fresh (Nat.le_refl _), fun y c e => ?_, fun p hp => absurd hp (by simp [cxLam]), e0.hok.kept hk₁, ?_⟩
    · have hy : scope.names.lookup y = some .cell ∨ scope.names.lookup y = some .free := hy
      rcases hy with hy | hy
      · exact absurd rfl (S.nocell _ (PySem.mem_of_lookup hy))
      · obtain ⟨c, hc⟩ := clo_has (cells := X.env.cells) (acc := []) (PySem.mem_of_lookup hy)
        exact mem_lookup hc
    · cases i with
      | zero =>
        have e1 : p = y := by simpa [cxLam] using h1
        have e2 : V.int h = v := by simpa using h2
        subst e1; subst e2
        exact ⟨.int h t, ⟨t, rfl⟩, .inl ⟨S.par, by simp⟩⟩
      | succ j =>
        have h1 : fs[j]? = some y := by simpa [cxLam] using h1
        have h2 : vs[j]? = some v := by
          rw [List.getElem?_cons_succ, List.getElem?_map] at h2
          cases e : vs[j]? with
          | none => rw [e] at h2; cases h2
          | some u => rw [e] at h2; cases h2; rfl
        obtain ⟨i, n1, n2, n3⟩ := cap.2 j y v h1 h2
        obtain ⟨m, hm, hl⟩ := I.loc
        obtain ⟨u, ru, l⟩ := hl i y v n1 n2 (.inr (.inl n3))
        rcases l with ⟨z, _⟩ | ⟨_, c, e, ic⟩
        · have z : X.env.scope.names.lookup y = some .local := z
          rw [n3] at z; cases z
        · refine ⟨u, ru, .inr ⟨.inr (S.fr y (List.mem_of_getElem? h1)), c, ?_, (cellK y c _ e ic).1⟩⟩
          obtain ⟨cc, hcc⟩ := clo_has (cells := X.env.cells) (acc := []) (PySem.mem_of_lookup (S.fr y (List.mem_of_getElem? h1)))
          obtain ⟨c2, e2⟩ := mem_lookup hcc
          have := clo_at hcl e2
          rw [e] at this
          cases this
          exact e2
    · obtain ⟨v, ic⟩ := I.cell y c (clo_at hcl e)
      exact ⟨v, (cellK y c v (clo_at hcl e) ic).1⟩
    · obtain ⟨v, ic⟩ := I.cell y c (clo_at hcl e)
      exact (cellK y c v (clo_at hcl e) ic).2
    · show (some (V.int h) :: vs.map some).length = (p :: fs).length
      rw [List.length_cons, List.length_map, cap.1]; rfl
  exact PySem.W.kla_codeExpr (wpAny_mono (pe [] _ _ H' Q J hq) (fun u s2 ⟨v, H2, J2, rv, qv⟩ => ⟨v, H2, J2.os, J2.bare, J2.base, J2.hok, rv, qv⟩) fun _ _ z => False.elim z)
end Hs
set_option Elab.async false
set_option linter.all false
set_option maxRecDepth 100000
set_option maxHeartbeats 1000000
namespace Hs
open PySem PySem.Spec PySem.Calls PyProof.Rows L2
structure FunC (K : PySem.W.Frag) (x qual : Str) (st : Stmt) (f : Addr) (fd : FuncData) (c : Addr) : Prop where
  ex : ∃ (oc : Value) (od : Option Addr) (kV doc pm : Value) (an : Option Addr) (ct : Value) (osl : Array (Option Value)),
    fd = PySem.W.fnOf x qual (defArgs st) (defBody st) (defScope st) .none kV doc pm an (.ref c) ct ∧ K.lookup f = some ⟨oc, od, .func fd, osl⟩ ∧ PySem.W.codeIn K (.ref c) qual = true
  kp : PySem.W.keepIn K (.ref f) = true
theorem FunC.ok {P : Program} {w : World} {K : PySem.W.Frag} {mg : Str → Option Value} {base : Heap} {x qual : Str} {st : Stmt} {f c : Addr} {fd : FuncData} {N ps : List Str} {k : Nat} {sp : Sp} (F : FunC K x qual st f fd c) (S : FnScope N ps (defScope st)) (len : ∀ vs H Q E, sp vs H Q E → vs.length = ps.length)
    (hbody : ∀ (A : Around) (outer : List Env) (s : Shared) (H : Hp) (vs : List V) (Q : VK) (E : XK), Room k (A.deeper (envOfC qual (defScope st) s.heap.objs.size f (.ref c))) → sp vs H Q E →
      ∃ t, PSs (cxOf CX0 P w K mg base N qual (defScope st) f (.ref c) A outer s H E).nox (defBody st) t ∧ t { nx := fun _ H' => Q .non H', rt := Q } (start N vs) H) : FnOk P w K mg base CX0 (k + 1) f fd ps sp := by
  obtain ⟨oc, od, kV, doc, pm, an, ct, osl, rfl, lk, hcd⟩ := F.ex
  refine L2.fn_of lk hcd S len fun A outer s H vs Q E hr hsp => ?_
  obtain ⟨t, h, q⟩ := hbody A outer s H vs Q E hr hsp
  exact ⟨t, h.nox, q⟩
theorem FunC.toFun {K : PySem.W.Frag} {x qual : Str} {st : Stmt} {f c : Addr} {fd : FuncData} (F : FunC K x qual st f fd c) : Fun K x qual st f fd :=
  let ⟨oc, od, kV, doc, pm, an, ct, osl, e, lk, hcd⟩ := F.ex; ⟨⟨oc, od, kV, doc, pm, an, .ref c, ct, osl, e, lk, hcd⟩, F.kp⟩
theorem funC_mk {K : PySem.W.Frag} {x qual : Str} {st : Stmt} {f c : Addr} {oc : Value} {od an : Option Addr} {osl : Array (Option Value)} {kV doc pm ct : Value} (l : K.lookup f = some ⟨oc, od, .func (PySem.W.fnOf x qual (defArgs st) (defBody st) (defScope st) .none kV doc pm an (.ref c) ct), osl⟩)
    (h : PySem.W.codeIn K (.ref c) qual = true) (k : PySem.W.keepIn K (.ref f) = true) : FunC K x qual st f (PySem.W.fnOf x qual (defArgs st) (defBody st) (defScope st) .none kV doc pm an (.ref c) ct) c := ⟨⟨oc, od, kV, doc, pm, an, ct, osl, rfl, l, h⟩, k⟩
theorem codeHd_of {K : PySem.W.Frag} {h : Heap} {c P : Addr} {od : Option Addr} {vs : Array Value} {sl : Array (Option Value)} {file : Str} {tf : Tok} {flags text : Int} {tg tt : Tok} {inF : Bool} (X : K.In h) (l : K.lookup c = some ⟨.type "code", od, .fields vs, sl⟩) (e1 : vs[11]? = some (.ref P)) (e2 : vs.getD 11 .none = .ref P)
    (e3 : vs.getD 18 .none = .str file tf) (e4 : vs.getD 7 .none = .int flags tg) (e5 : vs.getD 9 .none = .bool inF) (e6 : vs.getD 10 .none = .int text tt) (ne : c ≠ P) : PySem.W.CodeHd h c P :=
  ⟨_, vs, file, tf, flags, tg, inF, text, tt, X _ _ l, rfl, rfl, e1, e2, e3, e4, e5, e6, ne⟩
theorem law_callT {P : Program} {w : World} {K : PySem.W.Frag} {mg mb : Str → Option Value} {k : Nat} {fa a : Addr} {fd : FuncData} {x : Str} {sp : Sp} {s₁ : Shared} {vs : List Value} {ns : List Int} (tabs : List Addr)
    (KX : K.In s₁.heap) (hns : s₁.heap.Ns mainGlobals mg) (hb : s₁.heap.Ns builtinsNs mb) (hbb : ∀ x : Str, x ≠ "__name__" → mb x = bootBuiltins x) (hlim : s₁.heap.NoLimit) (hg : s₁.gens = #[])
    (ha : s₁.heap.get? a = some { cls := .type "list", data := .seq vs.toArray }) (hi : IntsAre vs ns) (hl : ns.length ≤ sizeLine) (hr : Room k callerA)
    (hT : ∀ P ∈ tabs, s₁.heap.get? P = some (PySem.W.tabObj #[]) ∧ isCodeTable s₁.heap P) (nT : PySem.W.noTabs K = true) (Bm : Bmain mg s₁.heap)
    (F : ∀ base : Heap, K.In base → base.Ns mainGlobals mg → Bmain mg base → FnOk P w K mg base CX0 k fa fd [x] sp) (hbind : ∀ (s : Shared) (u : Value), BindsTo s fd ⟨[u], []⟩ [(x, u)])
    (hsp : ∀ H : Hp, SqL K H a (ns.map V.int) → (∀ P ∈ tabs, H P = some (.tbl #[])) → sp [.ref a] H (fun v _ => v = .bl true) E0) :
    codeAny (model P w) callerA (.call (.ref fa) ⟨[.ref a], []⟩) (fun r s' => r = .ok (.ret (.bool true)) ∧ OldK s₁.heap s'.heap ∧ s'.os = s₁.os ∧ AllBare s'.gens) s₁ := by
  have rv := vals_ints hi
  have lenV := hi.length
  let scr : HO := .frz { cls := .type "list", data := .seq vs.toArray } (.lst (ns.map V.int))
  let H : Hp := fun b => if b = a then (if (K.lookup a).isNone = true then some scr else none) else if b ∈ tabs then some (.tbl #[]) else none
  have aT : a ∉ tabs := fun z => by
    have e := (hT a z).1
    rw [ha] at e; cases e
  have Ha : H a = if (K.lookup a).isNone = true then some scr else none := if_pos rfl
  have HT : ∀ q ∈ tabs, H q = some (.tbl #[]) := fun q hq => by
    have ne : q ≠ a := fun z => aT (z ▸ hq)
    have e : H q = if q = a then (if (K.lookup a).isNone = true then some scr else none) else if q ∈ tabs then some (.tbl #[]) else none := rfl
    rw [e, if_neg ne, if_pos hq]
  have Hc : ∀ b u, H b = some u → (b = a ∧ u = scr ∧ K.lookup a = none) ∨ (b ∈ tabs ∧ u = .tbl #[]) := fun b u e => by
    by_cases z : b = a
    · subst z
      rw [Ha] at e
      split at e
      · rename_i q
        exact .inl ⟨rfl, (Option.some.inj e).symm, by simpa using q⟩
      · cases e
    · have e : (if b = a then (if (K.lookup a).isNone = true then some scr else none) else if b ∈ tabs then some (HO.tbl #[]) else none) = some u := e
      rw [if_neg z] at e
      split at e
      · rename_i q
        exact .inr ⟨q, (Option.some.inj e).symm⟩
      · cases e
  have hS : SqL K H a (ns.map V.int) := by
    cases q : K.lookup a with
    | none => exact .inl (.inr ⟨_, by rw [Ha, q]; rfl⟩)
    | some o =>
      have e := KX a o q
      rw [ha] at e
      cases e
      exact .inr ⟨_, vs.toArray, _, q, rfl, rfl, rfl, by rw [List.size_toArray, lenV]; exact hl, by simpa using rv⟩
  have hok : L2.HOk P w H s₁.heap := fun b u e => by
    rcases Hc b u e with ⟨rfl, rfl, _⟩ | ⟨hb, rfl⟩
    · exact ⟨ha, by rw [List.length_map]; exact hl, vs, _, rv, ha⟩
    · exact (hT b hb).1
  have base_of : ∀ {b : Addr} {o : Obj}, s₁.heap.get? b = some o → H b = none → (hidT s₁.heap H).get? b = some o := fun e n => hidT_get e n
  have noH : ∀ {b : Addr} {o : Obj}, s₁.heap.get? b = some o → (∀ its n, o.data ≠ .seq its n) → (∀ ws, o.data ≠ .fields ws) → H b = none := fun {b o} e n1 n2 => by
    cases q : H b with
    | none => rfl
    | some u =>
      rcases Hc b u q with ⟨rfl, _, _⟩ | ⟨hb, _⟩
      · rw [ha] at e; cases e; exact absurd rfl (n1 _ _)
      · rw [(hT b hb).1] at e; cases e; exact absurd rfl (n2 _)
  have nsK : ∀ {b : Addr} {m : Str → Option Value}, s₁.heap.Ns b m → (hidT s₁.heap H).Ns b m := fun {b m} ⟨o, es, ep, e, d, r⟩ => ⟨o, es, ep, base_of e (noH e (fun _ _ z => by rw [d] at z; cases z) (fun _ z => by rw [d] at z; cases z)), d, r⟩
  have hKb : K.In (hidT s₁.heap H) := fun b o e => base_of (KX b o e) (by
    cases q : H b with
    | none => rfl
    | some u =>
      rcases Hc b u q with ⟨rfl, _, z⟩ | ⟨hb, _⟩
      · rw [z] at e; cases e
      · have e2 := KX b o e
        rw [(hT b hb).1] at e2
        cases e2
        have h2 := List.all_eq_true.mp nT (b, PySem.W.tabObj #[]) (PySem.W.mem_of_lookupK e)
        exact absurd (show false = true from h2) Bool.false_ne_true)
  have hBm : Bmain mg (hidT s₁.heap H) := by
    obtain ⟨bm, ob, b1, b2, b3, b4, b5, b6⟩ := Bm
    exact ⟨bm, ob, b1, b2, base_of b3 (noH b3 (fun _ _ z => by rw [b6] at z; cases z) (fun _ z => by rw [b6] at z; cases z)), b4, b5, b6⟩
  have hM : Mod K mg (hidT s₁.heap H) := ⟨hKb, nsK hns, ⟨mb, nsK hb, hbb⟩, let ⟨mc, h1, h2⟩ := hlim; ⟨mc, nsK h1, h2⟩⟩
  have e0 : Env0 P w K mg (hidT s₁.heap H) callerA [] s₁ H := ⟨rfl, hM, fun b o e => of_hidT e, Nat.le_of_eq (hidT_size _ _), trivial, fun b hb => absurd (show b ∈ ([] : List Addr) from hb) (by simp), hok, .of_eq hg⟩
  refine codeAny_mono ((F _ hKb (nsK hns) hBm).run callerA [] s₁ H ⟨[.ref a], []⟩ [.ref a] [.ref a] _ _ hr e0 (hbind s₁ (.ref a)) (.cons rfl .nil) (hsp H hS HT)) fun r s' h => ?_
  cases r with
  | error e => exact False.elim h
  | ok fl =>
    cases fl with
    | next => exact False.elim h
    | brk => exact False.elim h
    | cont => exact False.elim h
    | ret u =>
      obtain ⟨v, H', os, bare, un, hok', r', q⟩ := h
      have q' : v = .bl true := q
      subst q'
      obtain rfl : u = Value.bool true := r'
      have nf : ∀ b : Addr, b ∉ frs [] := fun b z => absurd (show b ∈ ([] : List Addr) from z) (by simp)
      refine ⟨rfl, ⟨fun b o e => ?_, fun b o e => un.there b o e (by simp)⟩, os, bare⟩
      cases q : H b with
      | none => exact .inl (un.keep b o e q (nf b) (by simp))
      | some u =>
        rcases Hc b u q with ⟨rfl, rfl, _⟩ | ⟨hb, rfl⟩
        · have z2 := un.frzs b _ _ q
          obtain ⟨e1, _⟩ := hok b _ q
          obtain ⟨e2, _⟩ := hok' b _ z2
          rw [e] at e1; cases e1
          exact .inl e2
        · obtain ⟨more, z2⟩ := un.tbls b _ q
          have e2 : s'.heap.get? b = some { cls := .none, data := .fields (#[] ++ more) } := hok' b _ z2
          rw [(hT b hb).1] at e; cases e
          exact .inr (.inl ⟨(hT b hb).2, rfl, #[], more, rfl, e2⟩)
theorem walk_ofT {l : PySem.W.OpenLaw} {n k : Nat} {q : Program} {loose : List Str} {XP : (Str → Option Value) → Heap → Prop} {YP : World → Heap → Prop} {d : DefRec} {K : Params → PySem.W.Frag} {sp : World → Sp} {x : Str} (tabs : List Addr)
    (hn : l.most = some n) (hn2 : n ≤ sizeLine) (hdf : d.params.defaults = []) (hr : Room k callerA)
    (hY : ∀ (w : World) (h : Heap), YP w h → (K w.params).In h) (nT : ∀ w : World, PySem.W.noTabs (K w.params) = true)
    (hx : ∀ (w : World) (P : Addr), P ∈ tabs → ∃ y e, (recsOf q).find? (fun e => e.name == y) = some e ∧ (PySem.W.tabIn (K w.params) y).map (·.2) = some P)
    (F : ∀ (w : World) (mg : Str → Option Value) (fa : Addr) (h : Heap), (K w.params).In h → h.Ns mainGlobals mg → mg d.name = some (.ref fa) →
      ∃ fd : FuncData, (∀ (s : Shared) (u : Value), BindsTo s fd ⟨[u], []⟩ [(x, u)]) ∧
        ∀ base : Heap, (K w.params).In base → base.Ns mainGlobals mg → Bmain mg base → FnOk l.prog w (K w.params) mg base CX0 k fa fd [x] (sp w))
    (hsp : ∀ (w : World) (H : Hp) (a : Addr) (ns : List Int), ns.length ≤ n → SqL (K w.params) H a (ns.map V.int) → (∀ P ∈ tabs, H P = some (.tbl #[])) → sp w [.ref a] H (fun v _ => v = .bl true) E0) :
    PySem.W.WalkO q loose XP YP l.row.toRowW d [] (fun f vs => PySem.call f vs) := by
  refine Att.attach_call hn hdf fun w s₀ s₁ mg mb fa o pm cd doc a vs ns G Y ho hd hcd hmg hobj hints hlen hg => ?_
  have KX := hY w _ Y
  obtain ⟨fd, hb, hF⟩ := F w mg fa _ KX G.T.g hmg
  have hT : ∀ P ∈ tabs, s₁.heap.get? P = some (PySem.W.tabObj #[]) ∧ isCodeTable s₁.heap P := fun P hP => by
    obtain ⟨y, e, h1, h2⟩ := hx w P hP
    obtain ⟨⟨c, P'⟩, h3, rfl⟩ := Option.map_eq_some_iff.mp h2
    obtain ⟨C, e2⟩ := PySem.W.tab_of G.T KX h1 h3
    exact ⟨e2, (C.tab e2).isCodeTable⟩
  exact law_callT tabs KX G.T.g G.T.b G.T.builtins G.T.nolimit hg hobj hints (Nat.le_trans hlen hn2) hr hT (nT w) G.T.bmain hF hb (fun H hS hH => hsp w H a ns hlen hS hH)
end Hs
set_option Elab.async false
set_option linter.all false
set_option maxRecDepth 100000
set_option maxHeartbeats 1000000
namespace L2
open PySem PySem.Spec PyProof.Rows
section
variable {X : Cx}
def rNotInSet : R2 := fun x y H Q => ∃ i p S n, x = .int i ∧ y = .ref p ∧ H p = some (.set S n) ∧ Q (.bl (!S i)) H
theorem op_notIn_set : OpR X (compareOp .NotIn) rNotInSet := by
  intro pins s σ H x y v u Q I rx ry h
  obtain ⟨i, p, S, n, rfl, rfl, hp, q⟩ := h
  obtain ⟨t, rfl⟩ := rx
  cases ry
  have hS : s.heap.SetOf (intKind X.prog X.w) p S n := I.hok p _ hp
  exact wpAny_notInSet_of (k := i) (intKind_is _ _ _ _) rfl hS ⟨.bl _, H, I.tok _, rfl, q⟩
def rSortA (K : PySem.W.Frag) : List V → Hp → VK → Prop := fun vs H Q => ∃ (a : Addr) (ns : List Int), vs = [V.ref a] ∧ SqL K H a (ns.map V.int) ∧ ∀ (ns' : List Int) (l : Addr), ns'.Perm ns → ns'.Pairwise (· ≤ ·) → H l = none → Q (.ref l) (upd H l (.lst (ns'.map V.int)))
theorem cr_sortA : CallR X (.builtin "sorted") (rSortA X.K) := by
  intro pins s σ H vs us Q I r h
  obtain ⟨a, ns, rfl, hs, q⟩ := h
  obtain ⟨its, rv, hl, hz⟩ := I.list hs
  rw [Vals.ref1 r]
  have hi := rv.ints
  have hil : its.length = ns.length := hi.length
  refine PyProof.Rows.sorted_intsAny hl.isList hi (by rw [← rv.length]; exact hz) fun out ns' h1 h2 h3 => ?_
  obtain ⟨ep, he'⟩ := PyProof.Rows.sortedAll_at s.heap its out
  have hlen : (ns'.map V.int).length ≤ sizeLine := by rw [List.length_map, h2.length_eq]; rw [List.length_map] at hz; exact hz
  exact ⟨.ref _, upd H (s.heap.objs.size + 1) (.lst (ns'.map V.int)), I.laid (t' := s.toks) (fun _ _ => PyProof.Rows.sortedAll_old) (Nat.le_succ _) ⟨hlen, out.toList, ep, vals_of_ints h1, he'⟩, rfl, q ns' _ h2 h3 (I.hok.fresh (Nat.le_succ _))⟩
end
end L2
namespace Hs
open PySem PySem.Spec PyProof.Rows L2
def Loose (H H' : Hp) : Prop := ∀ b o, H b = some o → (∀ ps, o ≠ .tbl ps) → H' b = some o
theorem Loose.refl (H : Hp) : Loose H H := fun _ _ h _ => h
theorem Loose.trans {H H1 H2 : Hp} (a : Loose H H1) (b : Loose H1 H2) : Loose H H2 := fun c o h n => b c o (a c o h n) n
theorem _root_.L2.Same.loose {H H' : Hp} (s : Same H H') : Loose H H' := fun c o h _ => s c o h
theorem Loose.free {H H' : Hp} (l : Loose H H') {b : Addr} (h : H' b = none) (n : ∀ ps, H b ≠ some (.tbl ps)) : H b = none := by
  cases q : H b with
  | none => rfl
  | some o =>
    have := l b o q fun ps z => n ps (by rw [q, z])
    rw [h] at this; cases this
abbrev TabL := List (Addr × Pos × Str)
def Tabs (T : TabL) (H : Hp) : Prop := ∀ t ∈ T, LamTab t.2.1 t.2.2 H t.1
theorem Tabs.tbl {T : TabL} {H : Hp} (h : Tabs T H) {t : Addr × Pos × Str} (m : t ∈ T) : ∃ ps, H t.1 = some (.tbl ps) := let ⟨ps, e, _⟩ := h t m; ⟨ps, e⟩
theorem LamTab.keeps {pos : Pos} {lq : Str} {H H' : Hp} {P : Addr} (h : LamTab pos lq H P) (e : H' P = H P) (l : Loose H H') : LamTab pos lq H' P := by
  obtain ⟨ps, h1, h2, h3⟩ := h
  refine ⟨ps, e.trans h1, h2, ?_⟩
  rcases h3 with h3 | ⟨c, h3, oc, vs, t, k1, k2, k3⟩
  · exact .inl h3
  · exact .inr ⟨c, h3, oc, vs, t, l c _ k1 (fun _ z => nomatch z), k2, k3⟩
theorem Tabs.same {T : TabL} {H H' : Hp} (h : Tabs T H) (s : Same H H') : Tabs T H' := fun t m => by
  obtain ⟨ps, e⟩ := h.tbl m
  exact (h t m).keeps ((s _ _ e).trans e.symm) s.loose
theorem Tabs.lam {T : TabL} {H H' : Hp} {P : Addr} {pos : Pos} {lq : Str} (h : Tabs T H) (hP : ∀ t ∈ T, t.1 = P → t = (P, pos, lq)) (n : LamTab pos lq H' P) (o : LamTab pos lq H P) (k : ∀ b o, b ≠ P → H b = some o → H' b = some o) : Tabs T H' ∧ Loose H H' := by
  have L : Loose H H' := fun b u e nt => by
    obtain ⟨ps, e2, _⟩ := o
    exact k b u (fun z => by rw [z, e2] at e; exact nt ps (Option.some.inj e).symm) e
  refine ⟨fun t m => ?_, L⟩
  by_cases z : t.1 = P
  · rw [hP t m z]; exact n
  · obtain ⟨ps, e⟩ := h.tbl m
    exact (h t m).keeps ((k _ _ z e).trans e.symm) L
structure Rows (H : Hp) (r : Addr) (rows : List (List Int)) : Prop where
  ex : ∃ rs : List Addr, H r = some (.tup (rs.map V.ref)) ∧ rs.length = rows.length ∧ ∀ (j : Nat) (a : Addr) (row : List Int), rs[j]? = some a → rows[j]? = some row → H a = some (.tup (row.map V.int))
theorem Rows.loose {H H' : Hp} {r : Addr} {rows : List (List Int)} (h : Rows H r rows) (l : Loose H H') : Rows H' r rows := by
  obtain ⟨rs, h1, h2, h3⟩ := h
  exact ⟨rs, l _ _ h1 (fun _ z => nomatch z), h2, fun j a row x y => l _ _ (h3 j a row x y) (fun _ z => nomatch z)⟩
theorem Rows.same {H H' : Hp} {r : Addr} {rows : List (List Int)} (h : Rows H r rows) (s : Same H H') : Rows H' r rows := h.loose s.loose
def rowsD (rows : List (List Int)) : PyData := .tuple (rows.map fun row => .tuple (row.map PyData.int))
theorem dpA_row {K : PySem.W.Frag} {H : Hp} : ∀ xs : List Int, DpAll K H (xs.map V.int) (xs.map PyData.int)
  | [] => .nil
  | x :: r => .cons (.int x) (dpA_row r)
theorem Rows.dp {K : PySem.W.Frag} {H : Hp} {r : Addr} {rows : List (List Int)} (h : Rows H r rows) : Dp K H (.ref r) (rowsD rows) := by
  obtain ⟨rs, h1, h2, h3⟩ := h
  refine .tup (SqT.of h1) (dpAll_of rs _ (by rw [List.length_map, h2]) fun j a d e1 e2 => ?_)
  rw [List.getElem?_map] at e2
  obtain ⟨row, e3, rfl⟩ := Option.map_eq_some_iff.mp e2
  exact .tup (SqT.of (h3 j a row e1 e3)) (dpA_row row)
def onceF (g : Int → List Int) : List Int → List Int → List (List Int)
  | _, [] => []
  | met, h :: r => if h ∈ met then onceF g met r else g h :: onceF g (met ++ g h) r
theorem onceF_mem {g : Int → List Int} : ∀ (hs met : List Int), ∀ row ∈ onceF g met hs, ∃ h ∈ hs, row = g h
  | [], _, row, h => by cases h
  | x :: r, met, row, h => by
    unfold onceF at h
    split at h
    · obtain ⟨y, hy, e⟩ := onceF_mem r met row h
      exact ⟨y, List.mem_cons_of_mem _ hy, e⟩
    · rcases List.mem_cons.mp h with e | h
      · exact ⟨x, by simp, e⟩
      · obtain ⟨y, hy, e⟩ := onceF_mem r _ row h
        exact ⟨y, List.mem_cons_of_mem _ hy, e⟩
def rngL (n : Nat) : List Int := (List.range n).map fun i : Nat => (i : Int)
theorem rngL_mem {n : Nat} {x : Int} : x ∈ rngL n ↔ InR n x := by
  unfold rngL InR
  constructor
  · intro h
    obtain ⟨i, hi, rfl⟩ := List.mem_map.mp h
    have := List.mem_range.mp hi
    omega
  · rintro ⟨h0, h1⟩
    exact List.mem_map.mpr ⟨x.toNat, List.mem_range.mpr (by omega), by omega⟩
theorem rngL_len (n : Nat) : (rngL n).length = n := by unfold rngL; simp
theorem rngL_get {n i : Nat} (h : i < n) : (rngL n)[i]? = some (i : Int) := by
  unfold rngL
  rw [List.getElem?_map, List.getElem?_range h]; rfl
end Hs
set_option Elab.async false
set_option linter.all false
set_option maxRecDepth 100000
set_option maxHeartbeats 1000000
namespace Hs
open PySem PySem.Spec PySem.Calls PyProof.Rows L2
def spOnce (P : Program) (w : World) (K : PySem.W.Frag) (mg : Str → Option Value) (base : Heap) (kc : Nat) : SpS := fun s outer vs H Q => ∃ (lh f : Addr) (hs : List Int) (dom : Int → Prop) (g : Int → List Int), vs = [.ref lh, .ref f] ∧ H lh = some (.lst (hs.map V.int)) ∧ hs.length ≤ 400 ∧
  Callable P w K mg base kc outer s H f dom g ∧ (∀ h ∈ hs, dom h ∧ ∀ z ∈ g h, InR 400 z) ∧ ∀ r H', Same H H' → H r = none → Rows H' r (onceF g [] hs) → Q (.ref r) H'
def spLam (X : Cx) (params : Arguments) (body : Expr) (scope : Scope) (pn : Str) (fs : List Str) (k : Nat) : L2.St → List V → Hp → VK → Prop := fun σ vs H3 Q =>
  ∃ (lh f c' : Addr) (ctv : Value) (hs : List Int) (vals : List V) (dom : Int → Prop) (g : Int → List Int), vs = [.ref lh, .ref f] ∧ H3 lh = some (.lst (hs.map V.int)) ∧ hs.length ≤ 400 ∧ H3 f = some (.frz (lamObj X.mg X.env params body scope c' ctv) (.own 0)) ∧ CodeOf H3 c' (X.env.qual ++ "<lambda>") ∧ Cap X σ fs vals ∧
    (∀ (A : Around) (outer' : List Env) (s' : Shared) (H' : Hp) (h : Int) (Q : VK), Room k (A.deeper (PySem.W.envX (X.env.qual ++ "<lambda>") scope s'.heap.objs.size f (.ref c') (cloFrom X.env.cells scope.names []))) → Same H3 H' → dom h → (∀ r H2, Same H' H2 → H' r = none → H2 r = some (.tup ((g h).map V.int)) → Q (.ref r) H2) →
      ∃ t, PE (cxLam X.prog X.w X.K X.mg X.base (pn :: fs) (PySem.W.envX (X.env.qual ++ "<lambda>") scope s'.heap.objs.size f (.ref c') (cloFrom X.env.cells scope.names [])) A outer' s' H') body t ∧ t (some (.int h) :: vals.map some) H' Q) ∧
    (∀ h ∈ hs, dom h ∧ ∀ z ∈ g h, InR 400 z) ∧ ∀ r H', Same H3 H' → H3 r = none → Rows H' r (onceF g [] hs) → Q (.ref r) H'
def tOnce (X : Cx) (params : Arguments) (body : Expr) (scope : Scope) (lpos : Pos) (T : Addr) (pn : Str) (fs : List Str) (k : Nat) (t1 : TE) : TE := tCallS (spLam X params body scope pn fs k) (tCons t1 (tCons (tLam X.mg X.env params body scope lpos T) tNil))
theorem pe_once {X : Cx} {x : Str} {p pos lpos : Pos} {e1 : Expr} {t1 : TE} {params : Arguments} {body : Expr} {scope : Scope} {c T : Addr} {pn : Str} {fs ps : List Str} {k j jo : Nat} (FO : FnS X.prog X.w X.K X.mg X.base x ps jo (spOnce X.prog X.w X.K X.mg X.base (k + 1))) (hr : Room j X.A) (hk : jo ≤ j)
    (hdef : defaultsOf params X.env = ([], [])) (hcl : ∀ y ∈ scope.names, y.2 = .free → ∃ cc, X.env.cells.lookup y.1 = some cc) (hcode : X.env.code = .ref c) (C : PySem.W.CodeHd X.base c T) (Bm : Bmain X.mg X.base) (hfn : ∀ y, X.fn y = true) (S : LamScope scope pn fs)
    (hbind : ∀ (c' : Addr) (ctv u : Value), bindArgs (PySem.W.kla_fn "<lambda>" (X.env.qual ++ "<lambda>") params body scope (cloFrom X.env.cells scope.names []) ((X.mg "__name__").getD .none) (.ref c') ctv) ⟨[u], []⟩ = pure [(pn, u)])
    (ha : PE X e1 t1) (hg : Gl X x := by rfl) (hdb : (x == ("__debug__" : Str)) = false := by decide)
    (he : starEach [e1, .Lambda params body scope lpos] X.env = (false, eval e1 X.env) :: starEach [.Lambda params body scope lpos] X.env := by rfl) (hpl : (backTo pos (starEach [.Lambda params body scope lpos] X.env)).any (·.1) = false := by rfl)  :
    PE X (.Call (.Name x p) [e1, .Lambda params body scope lpos] [] pos) (tOnce X params body scope lpos T pn fs k t1) := by
  refine pe_callS (spH := spLam X params body scope pn fs k) FO hr hk (fun pins σ H3 s vs Q I h => ?_) (pa_cons ha (pa_cons (pe_lam hdef hcl hcode C Bm) pa_nil) he) hg hdb he hpl
  obtain ⟨lh, f, c', ctv, hs, vals, dom, g, rfl, hlh, hlen, hf, hc, cap, hbody, hd, q⟩ := h
  exact ⟨lh, f, hs, dom, g, rfl, hlh, hlen, lam_callable I hfn S hcl cap hf hc (hbind c' ctv) hbody, hd, q⟩
end Hs
set_option Elab.async false
set_option linter.all false
set_option maxRecDepth 100000
set_option maxHeartbeats 1000000
namespace L2
open PySem PySem.Spec PyProof.Rows
theorem lc_enumT {K : PySem.W.Frag} {a : Addr} {xs : List V} {g : TG} {tt : TT} {te : TE} {vs : List Nat} {σ : St} {H1 : Hp} {D : Addr} {Qd : Hp → Prop} (Pv : Nat → Hp → Prop) (h0 : Pv 0 (upd H1 D (.lst []))) (hl : ∀ i H, i ≤ xs.length → Pv i H → SqT K H a xs)
    (hs : ∀ i x T H, xs[i]? = some x → Pv i H → H T = none → g (.ref T) (wipe σ vs) (upd H T (.tup [.int (i : Nat), x])) fun σ2 H2 => wipe σ2 vs = wipe σ vs ∧ tt σ2 H2 fun b H3 =>
      if b = true then te σ2 H3 fun y H4 => ∃ acc, H4 D = some (.lst acc) ∧ acc.length < sizeLine ∧ Pv (i + 1) (upd H4 D (.lst (acc ++ [y]))) else Pv (i + 1) H3) (hd : ∀ H, Pv xs.length H → Qd H) :
    ∃ W : Nat → Nat → Hp → Prop, (∃ m, W 0 m (upd H1 D (.lst []))) ∧ ∀ i m H, W i m H →
      ((IteT K a).stop i H ∧ Qd H) ∨ ((IteT K a).go i H ∧ ∃ Nx : Hp → Prop, (∀ H', Nx H' → ∃ m', m' < m ∧ W (i + 1) m' H') ∧ ∀ x H', (IteT K a).yld i H x H' → g x (wipe σ vs) H' fun σ2 H2 => wipe σ2 vs = wipe σ vs ∧ tt σ2 H2 fun b H3 =>
        if b = true then te σ2 H3 fun y H4 => ∃ acc, H4 D = some (.lst acc) ∧ acc.length < sizeLine ∧ Nx (upd H4 D (.lst (acc ++ [y]))) else Nx H3) := by
  refine ⟨fun i m H => m = xs.length - i ∧ i ≤ xs.length ∧ Pv i H, ⟨xs.length, by simp, Nat.zero_le _, h0⟩, ?_⟩
  rintro i m H ⟨rfl, hi, p⟩
  have q := hl i H hi p
  by_cases hlt : i < xs.length
  · refine .inr ⟨⟨xs, xs[i], q, by simp [hlt]⟩, Pv (i + 1), fun H' p' => ⟨xs.length - (i + 1), by omega, rfl, hlt, p'⟩, fun v H' y => ?_⟩
    obtain ⟨T, x, rfl, hT, rfl, y⟩ := y
    exact hs i x T _ (y xs q) p hT
  · have e : i = xs.length := by omega
    subst e
    exact .inl ⟨⟨xs, q, Nat.le_refl _⟩, hd H p⟩
end L2
namespace Hs
open PySem PySem.Spec PyProof.Rows L2
def gSeam (ms : List (Option Int)) (h : Int) : List Int := match lkM ms h with
  | none => [h]
  | some m => if h < m then [h, m] else [m, h]
def seamRow (ms : List (Option Int)) (h : Int) : List (List Int) := match lkM ms h with
  | none => [[h]]
  | some m => if h < m then [[h, m]] else []
def seamsF (ms : List (Option Int)) (n : Nat) : List (List Int) := (rngL n).flatMap (seamRow ms)
theorem rngL_drop {n i : Nat} (h : i < n) : (rngL n).drop i = (i : Int) :: (rngL n).drop (i + 1) := by
  have hl : i < (rngL n).length := by rw [rngL_len]; exact h
  rw [List.drop_eq_getElem_cons hl]
  congr 1
  have := rngL_get h
  rw [List.getElem?_eq_getElem hl] at this
  exact Option.some.inj this
theorem seams_once {on : List Int} {ms : List (Option Int)} (S : SkinOk on ms) : ∀ (k i : Nat) (met : List Int), i + k = on.length → (∀ x, (i : Int) ≤ x → x < on.length → (x ∈ met ↔ ∃ m, lkM ms x = some m ∧ m < i)) →
    onceF (gSeam ms) met ((rngL on.length).drop i) = ((rngL on.length).drop i).flatMap (seamRow ms)
  | 0, i, met, hk, _ => by
    have : (rngL on.length).drop i = [] := List.drop_of_length_le (by rw [rngL_len]; omega)
    rw [this]; rfl
  | k + 1, i, met, hk, hm => by
    have hi : i < on.length := by omega
    rw [rngL_drop hi, List.flatMap_cons]
    have gi : InR on.length (i : Int) := ⟨by omega, by omega⟩
    have m0 := hm (i : Int) (by omega) (by omega)
    unfold onceF
    cases e : lkM ms (i : Int) with
    | none =>
      have nm : (i : Int) ∉ met := fun z => by
        obtain ⟨m, h1, _⟩ := m0.mp z
        rw [e] at h1; cases h1
      rw [if_neg nm]
      have g1 : gSeam ms (i : Int) = [(i : Int)] := by unfold gSeam; rw [e]
      have r1 : seamRow ms (i : Int) = [[(i : Int)]] := by unfold seamRow; rw [e]
      rw [g1, r1]
      show _ :: _ = _ :: _
      congr 1
      refine seams_once S k (i + 1) _ (by omega) fun x h1 h2 => ?_
      rw [List.mem_append, hm x (by omega) h2, List.mem_singleton]
      constructor
      · rintro (⟨m, a, b⟩ | z)
        · exact ⟨m, a, by omega⟩
        · omega
      · rintro ⟨m, a, b⟩
        by_cases z : m = (i : Int)
        · subst z
          have := (S.mate (x := x) ⟨by omega, by omega⟩ a).2.1
          rw [e] at this; cases this
        · exact .inl ⟨m, a, by omega⟩
    | some m =>
      obtain ⟨gm, hmi, hne⟩ := S.mate gi e
      by_cases lt : (i : Int) < m
      · have nm : (i : Int) ∉ met := fun z => by
          obtain ⟨m', h1, h2⟩ := m0.mp z
          rw [e] at h1; cases h1; omega
        rw [if_neg nm]
        have g1 : gSeam ms (i : Int) = [(i : Int), m] := by unfold gSeam; rw [e]; simp [lt]
        have r1 : seamRow ms (i : Int) = [[(i : Int), m]] := by unfold seamRow; rw [e]; simp [lt]
        rw [g1, r1]
        show _ :: _ = _ :: _
        congr 1
        refine seams_once S k (i + 1) _ (by omega) fun x h1 h2 => ?_
        rw [List.mem_append, hm x (by omega) h2]
        constructor
        · rintro (⟨m', a, b⟩ | z)
          · exact ⟨m', a, by omega⟩
          · have : x = (i : Int) ∨ x = m := by simpa using z
            rcases this with z | z
            · omega
            · subst z; exact ⟨(i : Int), hmi, by omega⟩
        · rintro ⟨m', a, b⟩
          by_cases z : m' = (i : Int)
          · subst z
            have := (S.mate (x := x) ⟨by omega, by omega⟩ a).2.1
            rw [e] at this; cases this
            exact .inr (by simp)
          · exact .inl ⟨m', a, by omega⟩
      · have im : (i : Int) ∈ met := m0.mpr ⟨m, e, by omega⟩
        rw [if_pos im]
        have r1 : seamRow ms (i : Int) = [] := by unfold seamRow; rw [e]; simp [lt]
        rw [r1]
        show _ = _
        rw [List.nil_append]
        refine seams_once S k (i + 1) _ (by omega) fun x h1 h2 => ?_
        rw [hm x (by omega) h2]
        constructor
        · rintro ⟨m', a, b⟩
          exact ⟨m', a, by omega⟩
        · rintro ⟨m', a, b⟩
          by_cases z : m' = (i : Int)
          · subst z
            have := (S.mate (x := x) ⟨by omega, by omega⟩ a).2.1
            rw [e] at this; cases this
            omega
          · exact ⟨m', a, by omega⟩
theorem seams_all {on : List Int} {ms : List (Option Int)} (S : SkinOk on ms) : onceF (gSeam ms) [] (rngL on.length) = seamsF ms on.length :=
  seams_once S on.length 0 [] (by omega) fun x h1 h2 => ⟨fun z => (by cases z), fun ⟨m, a, b⟩ => by have := (S.mate (x := x) ⟨h1, h2⟩ a).1; omega⟩
theorem gSeam_rng {on : List Int} {ms : List (Option Int)} (S : SkinOk on ms) {h : Int} (g : InR on.length h) : (∀ z ∈ gSeam ms h, InR on.length z) ∧ (gSeam ms h).length ≤ 2 := by
  unfold gSeam
  cases e : lkM ms h with
  | none => exact ⟨fun z hz => by rw [List.mem_singleton.mp hz]; exact g, by simp⟩
  | some m =>
    have gm := (S.mate g e).1
    simp only
    split
    · exact ⟨fun z hz => by
        have : z = h ∨ z = m := by simpa using hz
        rcases this with q | q <;> rw [q] <;> assumption, by simp⟩
    · exact ⟨fun z hz => by
        have : z = m ∨ z = h := by simpa using hz
        rcases this with q | q <;> rw [q] <;> assumption, by simp⟩
theorem once_skip {g : Int → List Int} {h : Int} {met r : List Int} (m : h ∈ met) : onceF g met (h :: r) = onceF g met r := by
  show (if h ∈ met then _ else _) = _
  rw [if_pos m]
theorem once_take {g : Int → List Int} {h : Int} {met r : List Int} (m : h ∉ met) : onceF g met (h :: r) = g h :: onceF g (met ++ g h) r := by
  show (if h ∈ met then _ else _) = _
  rw [if_neg m]
end Hs
set_option Elab.async false
set_option linter.all false
set_option maxRecDepth 100000
set_option maxHeartbeats 2000000
namespace Hs
open PySem L2
section
variable {P : Program} {w : World} {K : PySem.W.Frag} {mg : Str → Option Value} {base : Heap} {f : Addr} {fd : FuncData} {cN cR : Addr}
theorem scHal : FnScope ["skin"] ["skin"] (defScope s_all_halves) := ⟨rfl, rfl, rfl, by decide +kernel, rfl, by decide +kernel, by decide +kernel⟩
def spHal : Sp := fun vs H Q _ => ∃ (p : Addr) (on : List Int) (ms : List (Option Int)), vs = [.ref p] ∧ SkAt H p on ms ∧ ∀ l H', Same H H' → H l = none → H' l = some (.lst ((rngL on.length).map V.int)) → Q (.ref l) H'
theorem ok_halves (B : Bi mg) (F : Fun K "all_halves" "all_halves" s_all_halves f fd) : FnOk P w K mg base CX0 1 f fd ["skin"] spHal := by
  refine F.ok scHal (fun vs H Q E h => ?_) (fun cdv A outer s H vs Q E hr h => ?_)
  · obtain ⟨p, on, ms, rfl, _⟩ := h; rfl
  obtain ⟨p, on, ms, rfl, ⟨sk, po, pm, h1, h2, h3⟩, q⟩ := h
  have hle := sk.le
  refine ⟨_, (pss_one (ps_ret (pe_callTy (call_list_rng rfl) rfl B.list_ bt_list (pa_cons (pe_callTy call_range1 rfl B.range_ bt_range (pa_cons (pe_callB call_len_seq rfl B.len_ bt_len (pa_cons (pe_ix ix_tup (pv 0) pe_int (fun _ _ => rfl)) pa_nil)) pa_nil)) pa_nil)))), ?_⟩
  refine ⟨_, rfl, p, _, _, .ref po, rfl, rfl, SqT.of h1, at0 _ _, po, _, rfl, .inr (SqT.of h2), ?_⟩
  rw [show ((on.map V.int).length : Int) = (on.length : Int) by rw [List.length_map]]
  refine ⟨_, rfl, fun pr hpr => ⟨pr, _, _, rfl, upd_same, by omega, by omega, by omega, by omega, ?_, fun ph hph => ?_⟩⟩
  · rw [sizeLine_eq]; omega
  rw [show ((on.length : Int) - 0).toNat = on.length by omega, ints_to]
  exact q ph _ ((same_put hpr _).trans (same_put hph _)) ((same_put hpr _).free hph) upd_same
theorem scOnce : FnScope ["halves", "walk_from", "met", "told", "half", "walk", "one"] ["halves", "walk_from"] (defScope s_each_once) := ⟨rfl, rfl, rfl, by decide +kernel, rfl, by decide +kernel, by decide +kernel⟩
theorem ok_once (B : Bi mg) (F : Fun K "each_once" "each_once" s_each_once f fd) (bn : Binds K fd ["halves", "walk_from"] []) (m : mg "each_once" = some (.ref f)) : FnS P w K mg base "each_once" ["halves", "walk_from"] 6 (spOnce P w K mg base 5) := by
  refine fnS_of (k := 5) F scOnce bn m (fun s o vs H Q h => ?_) (fun cdv A outer s H vs Q hr h => ?_)
  · obtain ⟨lh, f, hs, dom, g, rfl, _⟩ := h; rfl
  obtain ⟨lh, fv, hs, dom, g, rfl, hlh, hlen, Cb, hd, q⟩ := h
  refine ⟨_, (pss_cons (ps_set (i := 2) scOnce.nd rfl (Or.inl rfl) (pe_callTy0 call_set0 rfl B.set_ bt_set))
   (pss_cons (ps_set (i := 3) scOnce.nd rfl (Or.inl rfl) (pe_lst pa_nil))
   (pss_cons (ps_for PassesOwn.never rfl (pi_list (pv 0)) (pg_name (i := 4) scOnce.nd rfl (Or.inl rfl))
   (pss_one (ps_if (pt_cmpR op_notIn_set (pv 4) (pv 2) rfl)
   (pss_cons (ps_set (i := 5) scOnce.nd rfl (Or.inl rfl) (pe_callV Cb rfl hr (by decide) (i := 1) rfl rfl (pa_cons (pv 4) pa_nil)))
   (pss_cons (ps_expr (pe_bm PySem.F.plainAttrs_list PySem.F.slot_list_append PySem.F.type_list_append mt_append (pv 3) (pa_cons (pv 5) pa_nil)))
   (pss_one (ps_for PassesOwn.never rfl (pi_tup (pv 5)) (pg_name (i := 6) scOnce.nd rfl (Or.inl rfl))
   (pss_one (ps_expr (pe_bm PySem.F.plainAttrs_set PySem.F.slot_set_add PySem.F.type_set_add mt_setadd (pv 2) (pa_cons (pv 6) pa_nil))))))))
   pss_nil)))
   (pss_one (ps_ret (pe_callTy call_tuple_of rfl B.tuple_ bt_tuple (pa_cons (pv 3) pa_nil))))))), ?_⟩
  refine ⟨rfl, fun lm hlm => ⟨(by show 0 ≤ sizeLine; decide), fun lt hlt => ?_⟩⟩
  have flt : H lt = none := (same_put hlm (.set (fun _ => false) 0)).free hlt
  have nlt : lm ≠ lt := ne_of_none upd_same hlt
  have s0 := (same_put hlm (.set (fun _ => false) 0)).trans (same_put hlt (.lst []))
  refine ⟨_, rfl, lh, rfl, ⟨_, SqL.of (s0 _ _ hlh)⟩, for_list (K := K) (a := lh) (xs := hs.map V.int)
    (fun i σ H1 => ∃ (rs : List Addr) (rows : List (List Int)) (met ml : List Int) (S : Int → Bool) (v4 v5 v6 : Option V), σ = [some (.ref lh), some (.ref fv), some (.ref lm), some (.ref lt), v4, v5, v6] ∧ Same H H1 ∧ H1 lm = some (.set S ml.length) ∧ H1 lt = some (.lst (rs.map V.ref)) ∧
      rs.length = rows.length ∧ (∀ (j : Nat) (a : Addr) (row : List Int), rs[j]? = some a → rows[j]? = some row → H1 a = some (.tup (row.map V.int))) ∧ (∀ z, S z = true ↔ z ∈ met) ∧ ml.Nodup ∧ (∀ z, z ∈ ml ↔ z ∈ met) ∧ (∀ z ∈ met, InR 400 z) ∧ onceF g [] hs = rows ++ onceF g met (hs.drop i) ∧ rows.length ≤ i)
    ⟨[], [], [], [], fun _ => false, _, _, _, rfl, s0, up hlt upd_same, upd_same, rfl, fun j a row h => by simp at h, fun z => by simp, List.nodup_nil, fun z => Iff.rfl, fun z h => (by cases h), rfl, Nat.le_refl _⟩
    (fun i σ H1 _ ⟨_, _, _, _, _, _, _, _, _, s1, _⟩ => SqL.of (s1 _ _ hlh)) ?_ ?_⟩
  · rintro i x σ H1 hx ⟨rs, rows, met, ml, S, v4, v5, v6, rfl, s1, hm, ht, hl, hrow, hS, nd, hml, hin, eq, hri⟩
    rw [List.getElem?_map] at hx
    obtain ⟨h, hh, rfl⟩ := Option.map_eq_some_iff.mp hx
    obtain ⟨hil, ehh⟩ := List.getElem?_eq_some_iff.mp hh
    have hmem : h ∈ hs := List.mem_of_getElem? hh
    have hdrop : hs.drop i = h :: hs.drop (i + 1) := by rw [List.drop_eq_getElem_cons hil, ehh]
    refine ⟨_, rfl, _, rfl, h, lm, _, _, rfl, rfl, hm, _, rfl, ite2 (fun c => ?_) (fun c => ?_)⟩
    · have nm : h ∉ met := fun z => by rw [(hS h).mpr z] at c; exact absurd c (by decide)
      refine ⟨rfl, s1, _, rfl, h, rfl, s1, (hd h hmem).1, fun r H2 s2 f2 e2 => ?_⟩
      have fr : H r = none := s1.free f2
      have nr : r ≠ lt := fun z => by rw [z, ht] at f2; cases f2
      have nrm : r ≠ lm := fun z => by rw [z, hm] at f2; cases f2
      refine ⟨_, rfl, .inl ⟨rfl, _, SqL.of (s2 _ _ ht)⟩, _, rfl, lt, _, _, rfl, rfl, s2 _ _ ht, ?_, ?_⟩
      · rw [List.length_map, sizeLine_eq]; omega
      have ht3 : upd H2 lt (.lst (rs.map V.ref ++ [.ref r])) lt = some (.lst ((rs ++ [r]).map V.ref)) := by rw [upd_same, List.map_append]; rfl
      have hm3 : upd H2 lt (.lst (rs.map V.ref ++ [.ref r])) lm = some (.set S ml.length) := by rw [upd_ne nlt]; exact s2 _ _ hm
      have e3 : upd H2 lt (.lst (rs.map V.ref ++ [.ref r])) r = some (.tup ((g h).map V.int)) := by rw [upd_ne nr]; exact e2
      have s3 : Same H (upd H2 lt (.lst (rs.map V.ref ++ [.ref r]))) := same_set (s1.trans s2) flt
      have row3 : ∀ (j : Nat) (a : Addr) (row : List Int), rs[j]? = some a → rows[j]? = some row → upd H2 lt (.lst (rs.map V.ref ++ [.ref r])) a = some (.tup (row.map V.int)) := fun j a row h1 h2 => by
        have z := s2 _ _ (hrow j a row h1 h2)
        rw [upd_ne (fun y => by rw [y, s2 _ _ ht] at z; cases z)]; exact z
      generalize upd H2 lt (.lst (rs.map V.ref ++ [.ref r])) = H3 at ht3 hm3 e3 s3 row3 ⊢
      refine ⟨_, rfl, r, rfl, ⟨_, SqT.of e3⟩, for_tup (K := K) (a := r) (xs := (g h).map V.int)
        (fun j σ H4 => ∃ (ml4 : List Int) (S4 : Int → Bool) (v6 : Option V), σ = [some (.ref lh), some (.ref fv), some (.ref lm), some (.ref lt), some (.int h), some (.ref r), v6] ∧ (∀ b, b ≠ lm → H4 b = H3 b) ∧ H4 lm = some (.set S4 ml4.length) ∧ (∀ z, S4 z = true ↔ z ∈ met ++ (g h).take j) ∧ ml4.Nodup ∧ ∀ z, z ∈ ml4 ↔ z ∈ met ++ (g h).take j)
        ⟨ml, S, _, rfl, fun _ _ => rfl, hm3, fun z => by rw [List.take_zero, List.append_nil]; exact hS z, nd, fun z => by rw [List.take_zero, List.append_nil]; exact hml z⟩ (fun j σ H4 _ ⟨_, _, _, _, k4, _⟩ => SqT.of ((k4 r nrm).trans e3)) ?_ ?_⟩
      · rintro j z σ H4 hz ⟨ml4, S4, v6, rfl, k4, hm4, hS4, nd4, hml4⟩
        rw [List.getElem?_map] at hz
        obtain ⟨y, hy, rfl⟩ := Option.map_eq_some_iff.mp hz
        obtain ⟨hjl, ey⟩ := List.getElem?_eq_some_iff.mp hy
        have ing : ∀ z ∈ met ++ (g h).take j, InR 400 z := fun z hz => by
          rcases List.mem_append.mp hz with q | q
          · exact hin z q
          · exact (hd h hmem).2 z (List.mem_of_mem_take q)
        have ml400 := nd_len 400 ml4 nd4 fun z hz => ing z ((hml4 z).mp hz)
        refine ⟨_, rfl, .inr (.inr (.inr (.inr ⟨rfl, _, _, hm4⟩))), _, rfl, lm, y, S4, ml4.length, rfl, rfl, hm4, by omega, ?_⟩
        have tk : (g h).take (j + 1) = (g h).take j ++ [y] := by rw [List.take_succ_eq_append_getElem hjl, ey]
        by_cases sy : S4 y = true
        · refine ⟨ml4, _, _, rfl, fun b hb => by rw [upd_ne hb]; exact k4 b hb, by rw [upd_same, if_pos sy], fun z => ?_, nd4, fun z => ?_⟩
          · rw [tk, ← List.append_assoc, List.mem_append, Bool.or_eq_true, hS4 z]
            simp
          · rw [tk, ← List.append_assoc, List.mem_append, hml4 z]
            constructor
            · exact .inl
            · rintro (q | q)
              · exact q
              · rw [List.mem_singleton.mp q]; exact (hS4 y).mp sy
        · have ny : y ∉ ml4 := fun q => sy ((hS4 y).mpr ((hml4 y).mp q))
          refine ⟨ml4 ++ [y], _, _, rfl, fun b hb => by rw [upd_ne hb]; exact k4 b hb, by rw [upd_same, if_neg sy, List.length_append]; rfl, fun z => ?_, ?_, fun z => ?_⟩
          · rw [tk, ← List.append_assoc, List.mem_append, Bool.or_eq_true, hS4 z]
            simp
          · rw [List.nodup_append]
            exact ⟨nd4, by simp, fun a ha b hb => by rw [List.mem_singleton.mp hb]; exact fun q => ny (q ▸ ha)⟩
          · rw [tk, ← List.append_assoc, List.mem_append, List.mem_append, hml4 z]
      · rintro σ H4 ⟨ml4, S4, v6, rfl, k4, hm4, hS4, nd4, hml4⟩
        have tk : (g h).take ((g h).map V.int).length = g h := by rw [List.length_map, List.take_length]
        rw [tk] at hS4 hml4
        have s4 : Same H H4 := fun b o e => by
          rw [k4 b (ne_of_none e hlm)]; exact s3 b o e
        refine ⟨rs ++ [r], rows ++ [g h], met ++ g h, ml4, S4, _, _, _, rfl, s4, hm4, (k4 lt (Ne.symm nlt)).trans ht3, by rw [List.length_append, List.length_append, hl]; rfl, fun j a row h1 h2 => ?_, hS4, nd4, hml4, fun z hz => ?_, ?_, by rw [List.length_append]; simp; omega⟩
        · have z : H3 a = some (.tup (row.map V.int)) := by
            rcases Nat.lt_or_ge j rs.length with q | q
            · rw [List.getElem?_append_left q] at h1
              rw [List.getElem?_append_left (by rw [← hl]; exact q)] at h2
              exact row3 j a row h1 h2
            · rw [List.getElem?_append_right q] at h1
              rw [List.getElem?_append_right (by rw [← hl]; exact q)] at h2
              have j0 : j - rs.length = 0 := by
                rcases Nat.eq_zero_or_pos (j - rs.length) with z | z
                · exact z
                · rw [List.getElem?_eq_none (by simp only [List.length_singleton]; omega)] at h1; cases h1
              rw [j0] at h1
              rw [← hl, j0] at h2
              cases h1; cases h2
              exact e3
          rw [k4 a (fun y => by rw [y, hm3] at z; cases z)]; exact z
        · rcases List.mem_append.mp hz with q | q
          · exact hin z q
          · exact (hd h hmem).2 z q
        · rw [eq, hdrop]
          show rows ++ (if h ∈ met then _ else _) = _
          rw [if_neg nm, List.append_assoc]; rfl
    · have im : h ∈ met := by
        refine (hS h).mp ?_
        cases z : S h with
        | true => rfl
        | false => rw [z] at c; exact absurd rfl c
      refine ⟨rs, rows, met, ml, S, _, _, _, rfl, s1, hm, ht, hl, hrow, hS, nd, hml, hin, ?_, by omega⟩
      rw [eq, hdrop]
      show rows ++ (if h ∈ met then _ else _) = _
      rw [if_pos im]
  · rintro σ H1 ⟨rs, rows, met, ml, S, v4, v5, v6, rfl, s1, hm, ht, hl, hrow, hS, nd, hml, hin, eq, hri⟩
    rw [List.length_map, List.drop_length] at eq
    have eq : onceF g [] hs = rows := by rw [eq]; unfold onceF; simp
    refine ⟨_, rfl, lt, _, rfl, .inl ⟨SqL.of ht, fun r hr => ?_⟩⟩
    refine q r _ (s1.trans (same_put hr _)) (s1.free hr) ⟨rs, upd_same, by rw [eq]; exact hl, fun j a row h1 h2 => ?_⟩
    rw [eq] at h2
    exact up hr (hrow j a row h1 h2)
def lamAt (st : Stmt) : Expr := match (defBody st).getLast? with
  | some (.Return (some (.Call _ [_, e] _ _)) _) => e
  | _ => .Name "" ⟨0, 0, 0, 0⟩
def lamScope (st : Stmt) : Scope := match lamAt st with
  | .Lambda _ _ s _ => s
  | _ => { kind := .function, names := [], isGenerator := false, isCoroutine := false }
def lamPos (st : Stmt) : Pos := match lamAt st with
  | .Lambda _ _ _ p => p
  | _ => ⟨0, 0, 0, 0⟩
def tabOf (T : Addr) (n : Str) (st : Stmt) : Addr × Pos × Str := (T, lamPos st, n ++ ".<locals>." ++ "<lambda>")
def spAllW (T : TabL) (g : List Int → List (Option Int) → Int → List Int) (hs : List Int → List (Option Int) → List Int) : Sp := fun vs H Q _ => ∃ (p : Addr) (on : List Int) (ms : List (Option Int)), vs = [.ref p] ∧ SkAt H p on ms ∧ Tabs T H ∧
  ∀ r H', Loose H H' → Tabs T H' → Rows H' r (onceF (g on ms) [] (hs on ms)) → Q (.ref r) H'
theorem SkAt.loose {H H' : Hp} {p : Addr} {on : List Int} {ms : List (Option Int)} (S : SkAt H p on ms) (s : Loose H H') : SkAt H' p on ms := by
  obtain ⟨k, po, pm, h1, h2, h3⟩ := S
  exact ⟨k, po, pm, s _ _ h1 (fun _ z => nomatch z), s _ _ h2 (fun _ z => nomatch z), s _ _ h3 (fun _ z => nomatch z)⟩
theorem scPats : FnScope ["skin"] ["skin"] (defScope s_patches) := ⟨rfl, rfl, rfl, by decide +kernel, rfl, by decide +kernel, by decide +kernel⟩
def hsAll : List Int → List (Option Int) → List Int := fun on _ => rngL on.length
theorem cells_ofPats {L f : Addr} {cd : Value} : ∀ y ∈ (lamScope s_patches).names, y.2 = .free → ∃ cc, (PyProof.Rows.envOfC "patches" (defScope s_patches) L f cd).cells.lookup y.1 = some cc := fun y hy hf => cell_has (by
  revert y; decide +kernel)
theorem ok_patches {c Tp : Addr} {T : TabL} (hT : tabOf Tp "patches" s_patches ∈ T) (hU : ∀ t ∈ T, t.1 = Tp → t = tabOf Tp "patches" s_patches) (B : Bi mg) (kin : K.In base) (Cd : ∀ h, K.In h → PySem.W.CodeHd h c Tp) (Bm : Bmain mg base) (FO : FnS P w K mg base "each_once" ["halves", "walk_from"] 6 (spOnce P w K mg base 5)) (FH : Fn P w K mg base "all_halves" ["skin"] 1 spHal) (FP : FnX P w K mg base "patch_of" ["skin", "half"] 2 (spHalfT cN gPatch))
    (F : FunC K "patches" "patches" s_patches f fd c) : FnOk P w K mg base CX0 7 f fd ["skin"] (spAllW T gPatch hsAll) := by
  refine F.ok scPats (fun vs H Q E h => ?_) (fun A outer s H vs Q E hr h => ?_)
  · obtain ⟨p, on, ms, rfl, _⟩ := h; rfl
  obtain ⟨p, on, ms, rfl, S, TS, q⟩ := h
  have sk := S.ok
  have hle := sk.le
  refine ⟨_, (pss_one (ps_ret (pe_once (k := 4) (pn := "half") (fs := ["skin"]) FO hr (by decide) rfl (by intro y hy hf; exact cells_ofPats y hy hf) rfl (Cd _ kin) Bm (fun _ => rfl) ⟨rfl, rfl, rfl, by decide +kernel, rfl, by decide +kernel⟩ (fun _ _ _ => rfl) (pe_callF FH hr (by decide) (pa_cons (pv 0) pa_nil))))), ?_⟩
  refine ⟨_, rfl, p, on, ms, rfl, S, fun lh H1 s1 f1 e1 => ?_⟩
  have LT := (TS.same s1) _ hT
  refine ⟨LT, fun fv c' ctv H2 LT2 CO2 ff2 hf2 k2 => ?_⟩
  obtain ⟨TS2, L2'⟩ := (TS.same s1).lam hU LT2 LT k2
  have e2 := L2' _ _ e1 (fun _ z => nomatch z)
  have S2 := (S.same s1).loose L2'
  refine ⟨lh, fv, c', ctv, rngL on.length, [.ref p], fun h => InR on.length h, patL on, rfl, e2, by rw [rngL_len]; exact hle, hf2, CO2, ⟨rfl, fun j y v h1 h2 => ?_⟩, fun A' outer' s' H' h Q' hr' sm hd' q' => ?_, fun h hh => ⟨rngL_mem.mp hh, fun z hz => ?_⟩, fun r H3 s3 f3 R3 => ?_⟩
  · match j, h1, h2 with
    | 0, h1, h2 => cases h1; cases h2; exact ⟨0, rfl, rfl, rfl⟩
  · refine ⟨_, pe_callXn FP hr' (by decide) (pa_cons (pv 1) (pa_cons (pv 0) pa_nil)), ?_⟩
    exact ⟨_, rfl, _, rfl, p, on, ms, h, rfl, S2.same sm, small_log (by omega), fun _ r H3 s3 f3 e3 => q' r H3 s3 f3 e3, fun n => absurd hd' n⟩
  · have := (sk.pat (rngL_mem.mp hh)).2.2.1 z hz
    omega
  · exact q r H3 (s1.loose.trans (L2'.trans s3.loose)) (TS2.same s3) R3
theorem scKnots : FnScope ["skin", "ahead"] ["skin"] (defScope s_knots) := ⟨rfl, rfl, rfl, by decide +kernel, rfl, by decide +kernel, by decide +kernel⟩
theorem cells_ofKnots {L f : Addr} {cd : Value} : ∀ y ∈ (lamScope s_knots).names, y.2 = .free → ∃ cc, (PyProof.Rows.envOfC "knots" (defScope s_knots) L f cd).cells.lookup y.1 = some cc := fun y hy hf => cell_has (by
  revert y; decide +kernel)
theorem ok_knots {c Tp : Addr} {T : TabL} (hT : tabOf Tp "knots" s_knots ∈ T) (hU : ∀ t ∈ T, t.1 = Tp → t = tabOf Tp "knots" s_knots) (B : Bi mg) (kin : K.In base) (Cd : ∀ h, K.In h → PySem.W.CodeHd h c Tp) (Bm : Bmain mg base) (FO : FnS P w K mg base "each_once" ["halves", "walk_from"] 6 (spOnce P w K mg base 5)) (FH : Fn P w K mg base "all_halves" ["skin"] 1 spHal) (FA : Fn P w K mg base "all_ahead" ["skin"] 1 spAll) (FF : Fn P w K mg base "first_of_knot" ["skin", "half"] 3 spFst) (FW : Fn P w K mg base "walk_left" ["skin", "ahead", "first"] 1 spWL)
    (F : FunC K "knots" "knots" s_knots f fd c) : FnOk P w K mg base CX0 7 f fd ["skin"] (spAllW T gKnot (fun on _ => rngL on.length)) := by
  refine F.ok scKnots (fun vs H Q E h => ?_) (fun A outer s H vs Q E hr h => ?_)
  · obtain ⟨p, on, ms, rfl, _⟩ := h; rfl
  obtain ⟨p, on, ms, rfl, S, TS, q⟩ := h
  have sk := S.ok
  have hle := sk.le
  refine ⟨_, (pss_cons (ps_set (i := 1) scKnots.nd rfl (Or.inr rfl) (pe_callF FA hr (by decide) (pa_cons (pv 0) pa_nil)))
   (pss_one (ps_ret (pe_once (k := 4) (pn := "half") (fs := ["ahead", "skin"]) FO hr (by decide) rfl (by intro y hy hf; exact cells_ofKnots y hy hf) rfl (Cd _ kin) Bm (fun _ => rfl) ⟨rfl, rfl, rfl, by decide +kernel, rfl, by decide +kernel⟩ (fun _ _ _ => rfl) (pe_callF FH hr (by decide) (pa_cons (pv 0) pa_nil)))))), ?_⟩
  refine ⟨_, rfl, p, on, ms, rfl, S, fun la H0 al s0 f0 e0 AL => ?_⟩
  refine ⟨_, rfl, p, on, ms, rfl, S.same s0, fun lh H1 s1 f1 e1 => ?_⟩
  have s01 := s0.trans s1
  have LT := (TS.same s01) _ hT
  refine ⟨LT, fun fv c' ctv H2 LT2 CO2 ff2 hf2 k2 => ?_⟩
  obtain ⟨TS2, L2'⟩ := (TS.same s01).lam hU LT2 LT k2
  have e2 := L2' _ _ e1 (fun _ z => nomatch z)
  have S2 := (S.same s01).loose L2'
  have al2 := L2' _ _ (s1 _ _ e0) (fun _ z => nomatch z)
  refine ⟨lh, fv, c', ctv, rngL on.length, [.ref la, .ref p], fun h => InR on.length h, knotL on ms, rfl, e2, by rw [rngL_len]; exact hle, hf2, CO2, ⟨rfl, fun j y v h1 h2 => ?_⟩, fun A' outer' s' H' h Q' hr' sm hd' q' => ?_, fun h hh => ⟨rngL_mem.mp hh, fun z hz => ?_⟩, fun r H3 s3 f3 R3 => ?_⟩
  · match j, h1, h2 with
    | 0, h1, h2 => cases h1; cases h2; exact ⟨1, rfl, rfl, rfl⟩
    | 1, h1, h2 => cases h1; cases h2; exact ⟨0, rfl, rfl, rfl⟩
  · refine ⟨_, pe_callF FW hr' (by decide) (pa_cons (pv 2) (pa_cons (pv 1) (pa_cons (pe_callF FF hr' (by decide) (pa_cons (pv 2) (pa_cons (pv 0) pa_nil))) pa_nil))), ?_⟩
    exact ⟨_, rfl, _, rfl, _, rfl, _, rfl, p, on, ms, h, rfl, S2.same sm, hd', p, la, on, al, ms, _, rfl, S2.same sm, sm _ _ al2, AL, (sk.fst hd').1, q'⟩
  · have := (sk.knot (rngL_mem.mp hh)).2.2.1 z hz
    omega
  · exact q r H3 (s01.loose.trans (L2'.trans s3.loose)) (TS2.same s3) R3
theorem scRims : FnScope ["skin", "mateless", "half", "mate"] ["skin"] (defScope s_rims) := ⟨rfl, rfl, rfl, by decide +kernel, rfl, by decide +kernel, by decide +kernel⟩
def hsRim : List Int → List (Option Int) → List Int := fun on ms => (rngL on.length).filter fun h => decide (lkM ms h = none)
theorem cells_ofRims {L f : Addr} {cd : Value} : ∀ y ∈ (lamScope s_rims).names, y.2 = .free → ∃ cc, (PyProof.Rows.envOfC "rims" (defScope s_rims) L f cd).cells.lookup y.1 = some cc := fun y hy hf => cell_has (by
  revert y; decide +kernel)
def gRim : List Int → List (Option Int) → Int → List Int := rimL
theorem ok_rims {c Tp : Addr} {T : TabL} (hT : tabOf Tp "rims" s_rims ∈ T) (hU : ∀ t ∈ T, t.1 = Tp → t = tabOf Tp "rims" s_rims) (B : Bi mg) (kin : K.In base) (Cd : ∀ h, K.In h → PySem.W.CodeHd h c Tp) (Bm : Bmain mg base) (FO : FnS P w K mg base "each_once" ["halves", "walk_from"] 6 (spOnce P w K mg base 5)) (FI : FnX P w K mg base "rim_of" ["skin", "half"] 4 (spRim cN cR))
    (F : FunC K "rims" "rims" s_rims f fd c) : FnOk P w K mg base CX0 7 f fd ["skin"] (spAllW T gRim hsRim) := by
  refine F.ok scRims (fun vs H Q E h => ?_) (fun A outer s H vs Q E hr h => ?_)
  · obtain ⟨p, on, ms, rfl, _⟩ := h; rfl
  obtain ⟨p, on, ms, rfl, S, TS, q⟩ := h
  obtain ⟨sk, po, pm, h1, h2, h3⟩ := id S
  have hle := sk.le
  have hlm : (ms.map mV).length = on.length := by rw [List.length_map, sk.len]
  refine ⟨_, (pss_cons (ps_setLc (i := 1) (own := [("half", 2), ("mate", 3)]) (g := gTup K 2 (gCons (gName 2) (gCons (gName 3) gNil))) rfl scRims.nd rfl rfl (sw_true rfl rfl rfl rfl) (pi_enumT rfl B.enumerate_ (pa_cons (pe_ix ix_tup (pv 0) pe_int (fun _ _ => rfl)) pa_nil)) (blkOk_by (own := [("half", 2), ("mate", 3)]) (N := ["skin", "mateless", "half", "mate"]) (sc := (defScope s_rims)) (by decide +kernel)) (fun _ _ _ _ _ => pg_tup rfl (pgs_cons (pg_name (i := 2) scRims.nd rfl (Or.inl rfl)) (pgs_cons (pg_name (i := 3) scRims.nd rfl (Or.inl rfl)) pgs_nil))) (fun _ _ _ _ _ => pts_one (pt_cmpR op_isN (pv 3) pe_non (nomark _))) (fun _ _ _ _ _ => (pv 2))) (pss_one (ps_ret (pe_once (k := 4) (pn := "half") (fs := ["skin"]) FO hr (by decide) rfl (by intro y hy hf; exact cells_ofRims y hy hf) rfl (Cd _ kin) Bm (fun _ => rfl) ⟨rfl, rfl, rfl, by decide +kernel, rfl, by decide +kernel⟩ (fun _ _ _ => rfl) (pv 1))))), ?_⟩
  refine ⟨_, rfl, p, _, _, .ref pm, rfl, rfl, SqT.of h1, at1 _ _ _, pm, _, rfl, SqT.of h3, fun D hD => ?_⟩
  refine lc_enumT (K := K) (a := pm) (xs := ms.map mV) (Pv := fun i H1 => Same H H1 ∧ H1 D = some (.lst ((((rngL on.length).take i).filter fun h => decide (lkM ms h = none)).map V.int))) ⟨same_put hD _, upd_same⟩ (fun i H1 _ pv => SqT.of (pv.1 _ _ h3)) ?_ ?_
  · rintro i x T1 H1 hx ⟨s1, g1⟩ hT1
    obtain ⟨hi, ex⟩ := List.getElem?_eq_some_iff.mp hx
    have hi' : i < on.length := by rw [← hlm]; exact hi
    have e1 : x = mV (lkM ms (i : Int)) := by
      have := get_mV (ms := ms) (i := i) (by rw [sk.len]; exact hi')
      rw [hx] at this
      rw [Option.some.inj this]
      unfold lkM
      rw [show ((i : Int)).toNat = i by omega, List.getElem?_eq_getElem (by rw [sk.len]; exact hi')]; rfl
    subst e1
    have tk : (rngL on.length).take (i + 1) = (rngL on.length).take i ++ [(i : Int)] := by
      have hl : i < (rngL on.length).length := by rw [rngL_len]; exact hi'
      rw [List.take_succ_eq_append_getElem hl]
      congr 2
      have := rngL_get hi'
      rw [List.getElem?_eq_getElem hl] at this
      exact Option.some.inj this
    have nT : D ≠ T1 := ne_of_none g1 hT1
    refine ⟨T1, _, rfl, SqT.of upd_same, rfl, _, _, rfl, _, _, rfl, rfl, rfl, ?_⟩
    have s2 := s1.trans (same_put hT1 (.tup [.int (i : Nat), mV (lkM ms (i : Int))]))
    have g2 := up hT1 g1 (o := .tup [.int (i : Nat), mV (lkM ms (i : Int))])
    generalize upd H1 T1 (.tup [.int (i : Nat), mV (lkM ms (i : Int))]) = H2 at s2 g2 ⊢
    refine ⟨_, rfl, rfl, _, rfl, ?_⟩
    cases e : lkM ms (i : Int) with
    | none =>
      refine itP rfl ⟨_, rfl, _, g2, ?_, same_set s2 hD, ?_⟩
      · rw [List.length_map, sizeLine_eq]
        have := List.length_filter_le (fun h => decide (lkM ms h = none)) ((rngL on.length).take i)
        rw [List.length_take, rngL_len] at this
        omega
      · rw [upd_same, tk, List.filter_append, List.map_append, List.filter_cons, e]; rfl
    | some m =>
      refine itN rfl ⟨s2, ?_⟩
      rw [g2, tk, List.filter_append, List.filter_cons, e]; simp
  · rintro H1 ⟨s1, g1⟩
    rw [hlm, List.take_of_length_le (by rw [rngL_len]; exact Nat.le_refl _)] at g1
    have LT := (TS.same s1) _ hT
    refine ⟨_, rfl, LT, fun fv c' ctv H2 LT2 CO2 ff2 hf2 k2 => ?_⟩
    obtain ⟨TS2, L2'⟩ := (TS.same s1).lam hU LT2 LT k2
    have e2 := L2' _ _ g1 (fun _ z => nomatch z)
    have S2 := (S.same s1).loose L2'
    have mem : ∀ h ∈ (rngL on.length).filter fun h => decide (lkM ms h = none), InR on.length h ∧ lkM ms h = none := fun h hh => by
      obtain ⟨a, b⟩ := List.mem_filter.mp hh
      exact ⟨rngL_mem.mp a, of_decide_eq_true b⟩
    refine ⟨D, fv, c', ctv, _, [.ref p], fun h => InR on.length h ∧ lkM ms h = none, rimL on ms, rfl, e2, ?_, hf2, CO2, ⟨rfl, fun j y v h1 h2 => ?_⟩, fun A' outer' s' H' h Q' hr' sm hd' q' => ?_, fun h hh => ⟨mem h hh, fun z hz => ?_⟩, fun r H3 s3 f3 R3 => ?_⟩
    · have := List.length_filter_le (fun h => decide (lkM ms h = none)) (rngL on.length)
      rw [rngL_len] at this
      omega
    · match j, h1, h2 with
      | 0, h1, h2 => cases h1; cases h2; exact ⟨0, rfl, rfl, rfl⟩
    · refine ⟨_, pe_callXn FI hr' (by decide) (pa_cons (pv 1) (pa_cons (pv 0) pa_nil)), ?_⟩
      obtain ⟨ha, hb'⟩ := hd'
      exact ⟨_, rfl, _, rfl, p, on, ms, h, rfl, S2.same sm, small_log (by omega), fun _ _ r H3 s3 f3 e3 => q' r H3 s3 f3 e3, fun _ n => absurd hb' n, fun n => absurd ha n⟩
    · have := (sk.rim (mem h hh).1).2.2.1 z hz
      omega
    · exact q r H3 (s1.loose.trans (L2'.trans s3.loose)) (TS2.same s3) R3
theorem scSeams : FnScope ["skin", "told", "half", "mate"] ["skin"] (defScope s_seams) := ⟨rfl, rfl, rfl, by decide +kernel, rfl, by decide +kernel, by decide +kernel⟩
def spSeams : Sp := fun vs H Q _ => ∃ (p : Addr) (on : List Int) (ms : List (Option Int)), vs = [.ref p] ∧ SkAt H p on ms ∧ ∀ r H', Same H H' → Rows H' r (seamsF ms on.length) → Q (.ref r) H'
theorem ok_seams (B : Bi mg) (F : Fun K "seams" "seams" s_seams f fd) : FnOk P w K mg base CX0 1 f fd ["skin"] spSeams := by
  refine F.ok scSeams (fun vs H Q E h => ?_) (fun cdv A outer s H vs Q E hr h => ?_)
  · obtain ⟨p, on, ms, rfl, _⟩ := h; rfl
  obtain ⟨p, on, ms, rfl, S, q⟩ := h
  obtain ⟨sk, po, pm, h1, h2, h3⟩ := id S
  have hle := sk.le
  have hlm : (ms.map mV).length = on.length := by rw [List.length_map, sk.len]
  refine ⟨_, (pss_cons (ps_set (i := 1) scSeams.nd rfl (Or.inl rfl) (pe_lst pa_nil))
   (pss_cons (ps_for PassesOwn.never rfl (pi_enumT rfl B.enumerate_ (pa_cons (pe_ix ix_tup (pv 0) pe_int (fun _ _ => rfl)) pa_nil)) (pg_tup rfl (pgs_cons (pg_name (i := 2) scSeams.nd rfl (Or.inl rfl)) (pgs_cons (pg_name (i := 3) scSeams.nd rfl (Or.inl rfl)) pgs_nil)))
   (pss_one (ps_if (pt_cmpR op_isN (pv 3) pe_non (nomark _))
   (pss_one (ps_expr (pe_bm PySem.F.plainAttrs_list PySem.F.slot_list_append PySem.F.type_list_append mt_append (pv 1) (pa_cons (pe_tup (pa_cons (pv 2) pa_nil)) pa_nil))))
   (pss_one (ps_if (pt_cmpR op_lt (pv 2) (pv 3) (nomark _))
   (pss_one (ps_expr (pe_bm PySem.F.plainAttrs_list PySem.F.slot_list_append PySem.F.type_list_append mt_append (pv 1) (pa_cons (pe_tup (pa_cons (pv 2) (pa_cons (pv 3) pa_nil))) pa_nil))))
   pss_nil)))))
   (pss_one (ps_ret (pe_callTy call_tuple_of rfl B.tuple_ bt_tuple (pa_cons (pv 1) pa_nil)))))), ?_⟩
  refine ⟨(by show 0 ≤ sizeLine; decide), fun lt hlt => ?_⟩
  refine ⟨_, rfl, p, _, _, .ref pm, rfl, rfl, SqT.of (up hlt h1), at1 _ _ _, pm, _, rfl, SqT.of (up hlt h3), for_enumT (K := K) (a := pm) (xs := ms.map mV)
    (fun i σ H1 => ∃ (rs : List Addr) (v2 v3 : Option V), σ = [some (.ref p), some (.ref lt), v2, v3] ∧ Same H H1 ∧ H1 lt = some (.lst (rs.map V.ref)) ∧ rs.length = (((rngL on.length).take i).flatMap (seamRow ms)).length ∧ rs.length ≤ i ∧
      ∀ (j : Nat) (a : Addr) (row : List Int), rs[j]? = some a → (((rngL on.length).take i).flatMap (seamRow ms))[j]? = some row → H1 a = some (.tup (row.map V.int)))
    ⟨[], _, _, rfl, same_put hlt _, upd_same, rfl, Nat.le_refl _, fun j a row h => by simp at h⟩ (fun i σ H1 _ ⟨_, _, _, _, s1, _⟩ => SqT.of (s1 _ _ h3)) ?_ ?_⟩
  · rintro i x T1 σ H1 hx ⟨rs, v2, v3, rfl, s1, g1, l1, li, r1⟩ hT1
    obtain ⟨hi, ex⟩ := List.getElem?_eq_some_iff.mp hx
    have hi' : i < on.length := by rw [← hlm]; exact hi
    have e1 : x = mV (lkM ms (i : Int)) := by
      have := get_mV (ms := ms) (i := i) (by rw [sk.len]; exact hi')
      rw [hx] at this
      rw [Option.some.inj this]
      unfold lkM
      rw [show ((i : Int)).toNat = i by omega, List.getElem?_eq_getElem (by rw [sk.len]; exact hi')]; rfl
    subst e1
    have tk : (rngL on.length).take (i + 1) = (rngL on.length).take i ++ [(i : Int)] := by
      have hl : i < (rngL on.length).length := by rw [rngL_len]; exact hi'
      rw [List.take_succ_eq_append_getElem hl]
      congr 2
      have := rngL_get hi'
      rw [List.getElem?_eq_getElem hl] at this
      exact Option.some.inj this
    have tf : ((rngL on.length).take (i + 1)).flatMap (seamRow ms) = ((rngL on.length).take i).flatMap (seamRow ms) ++ seamRow ms (i : Int) := by rw [tk, List.flatMap_append]; simp
    refine ⟨T1, _, rfl, SqT.of upd_same, rfl, _, _, rfl, _, _, rfl, rfl, ?_⟩
    have s2 := s1.trans (same_put hT1 (.tup [.int (i : Nat), mV (lkM ms (i : Int))]))
    have k2 := same_put hT1 (.tup [.int (i : Nat), mV (lkM ms (i : Int))])
    generalize upd H1 T1 (.tup [.int (i : Nat), mV (lkM ms (i : Int))]) = H2 at s2 k2 ⊢
    have g2 := k2 _ _ g1
    have r2 : ∀ (j : Nat) (a : Addr) (row : List Int), rs[j]? = some a → (((rngL on.length).take i).flatMap (seamRow ms))[j]? = some row → H2 a = some (.tup (row.map V.int)) := fun j a row x y => k2 _ _ (r1 j a row x y)
    have more : ∀ (t : Addr) (row : List Int), H2 t = none → seamRow ms (i : Int) = [row] → row.length ≤ 2 → ∀ (v2 v3 : Option V), ∃ (rs' : List Addr) (w2 w3 : Option V), [some (V.ref p), some (V.ref lt), v2, v3] = [some (.ref p), some (.ref lt), w2, w3] ∧ Same H (upd (upd H2 t (.tup (row.map V.int))) lt (.lst (rs.map V.ref ++ [.ref t]))) ∧ (upd (upd H2 t (.tup (row.map V.int))) lt (.lst (rs.map V.ref ++ [.ref t]))) lt = some (.lst (rs'.map V.ref)) ∧ rs'.length = (((rngL on.length).take (i + 1)).flatMap (seamRow ms)).length ∧ rs'.length ≤ i + 1 ∧
        ∀ (j : Nat) (a : Addr) (row' : List Int), rs'[j]? = some a → (((rngL on.length).take (i + 1)).flatMap (seamRow ms))[j]? = some row' → (upd (upd H2 t (.tup (row.map V.int))) lt (.lst (rs.map V.ref ++ [.ref t]))) a = some (.tup (row'.map V.int)) := fun t row ft er _ v2 v3 => by
      have nt : t ≠ lt := fun z => by rw [z, g2] at ft; cases ft
      refine ⟨rs ++ [t], v2, v3, rfl, same_set (s2.trans (same_put ft _)) hlt, by rw [upd_same, List.map_append]; rfl, by rw [tf, er, List.length_append, List.length_append, l1]; rfl, by rw [List.length_append]; simp; omega, fun j a row' x y => ?_⟩
      rw [tf, er] at y
      have z : upd H2 t (.tup (row.map V.int)) a = some (.tup (row'.map V.int)) := by
        rcases Nat.lt_or_ge j rs.length with q | q
        · rw [List.getElem?_append_left q] at x
          rw [List.getElem?_append_left (by rw [← l1]; exact q)] at y
          exact up ft (r2 j a row' x y)
        · rw [List.getElem?_append_right q] at x
          rw [List.getElem?_append_right (by rw [← l1]; exact q)] at y
          have j0 : j - rs.length = 0 := by
            rcases Nat.eq_zero_or_pos (j - rs.length) with z | z
            · exact z
            · rw [List.getElem?_eq_none (by simp only [List.length_singleton]; omega)] at x; cases x
          rw [j0] at x
          rw [← l1, j0] at y
          cases x; cases y
          exact upd_same
      rw [upd_ne (fun y => by rw [y, upd_ne (Ne.symm nt), g2] at z; cases z)]; exact z
    refine ⟨_, rfl, rfl, _, rfl, ?_⟩
    have bnd : (rs.map V.ref).length < sizeLine := by rw [List.length_map, sizeLine_eq]; omega
    cases e : lkM ms (i : Int) with
    | none =>
      refine itP rfl ⟨_, rfl, .inl ⟨rfl, _, SqL.of g2⟩, _, rfl, (by show 1 ≤ sizeLine; decide), fun t ft => ⟨lt, _, _, rfl, rfl, up ft g2, bnd, ?_⟩⟩
      exact more t [(i : Int)] ft (by unfold seamRow; rw [e]) (by simp) _ _
    | some m =>
      refine itN rfl ⟨_, rfl, _, rfl, _, _, rfl, rfl, _, rfl, ite2 (fun c => ?_) (fun c => ?_)⟩
      · have c : (i : Int) < m := of_decide_eq_true c
        refine ⟨_, rfl, .inl ⟨rfl, _, SqL.of g2⟩, _, rfl, _, rfl, (by show 2 ≤ sizeLine; decide), fun t ft => ⟨lt, _, _, rfl, rfl, up ft g2, bnd, ?_⟩⟩
        exact more t [(i : Int), m] ft (by unfold seamRow; rw [e]; simp [c]) (by simp) _ _
      · have c : ¬ (i : Int) < m := of_decide_eq_false (Bool.eq_false_iff.mpr c)
        have er : seamRow ms (i : Int) = [] := by unfold seamRow; rw [e]; simp [c]
        rw [er, List.append_nil] at tf
        exact ⟨rs, _, _, rfl, s2, g2, by rw [tf]; exact l1, by omega, fun j a row x y => r2 j a row x (by rw [tf] at y; exact y)⟩
  · rintro σ H1 ⟨rs, v2, v3, rfl, s1, g1, l1, li, r1⟩
    rw [hlm, List.take_of_length_le (by rw [rngL_len]; exact Nat.le_refl _)] at l1 r1
    refine ⟨_, rfl, lt, _, rfl, .inl ⟨SqL.of g1, fun r hr => ?_⟩⟩
    exact q r _ (s1.trans (same_put hr _)) ⟨rs, upd_same, l1, fun j a row x y => up hr (r1 j a row x y)⟩
end
end Hs
set_option Elab.async false
set_option linter.all false
set_option maxRecDepth 100000
namespace Hs
open PySem PySem.Spec PySem.Calls PyProof.Rows PySem.W
section
variable {prog : Program} {w : World} {A : Around} {E : Value → Shared → Prop} {h : Heap} {g : Array GenState} {d : Drawn} {t : Nat} {os : OsState}
variable {nm q : Str} {C N : Addr} {bs bm bmB : List Value} {hdct : Bool} {sn : List Str} {sub : List Value} {ab : Bool} {col : Option Bool} {dd : Option Addr} {k0 k1 k2 k3 k5 : Option Value} {B newId initId : String}
end
section
variable {prog : Program} {w : World} {A : Around} {E : Value → Shared → Prop} {s : Shared} {K : Frag} {C S x : Addr} {name : Str} {v : Value}
end
end Hs
set_option Elab.async false
set_option linter.all false
set_option maxRecDepth 100000
namespace Hs
open PySem PySem.Spec PySem.Calls PyProof.Rows PySem.W
section
variable {prog : Program} {w : World} {M : Model} {A : Around} {E : Value → Shared → Prop} {h : Heap} {g : Array GenState} {d : Drawn} {t : Nat} {os : OsState}
end
end Hs
set_option Elab.async false
set_option linter.all false
set_option maxRecDepth 100000
namespace Hs
open PySem PySem.Spec PySem.Calls PyProof.Rows PySem.W L2
section
variable {M : Model} {prog : Program} {w : World} {A : Around} {E : Value → Shared → Prop} {s : Shared}
end
section
variable {prog : Program} {w : World} {A : Around} {E : Value → Shared → Prop} {s : Shared} {K : Frag} {mg : Str → Option Value} {base : Heap} {C S fI e tt : Addr} {p fld : Str} {pts : List PySem.Expr} {tp : Pos} {v a1 a2 a3 a4 a5 : Value}
end
end Hs
set_option Elab.async false
set_option linter.all false
set_option maxRecDepth 100000
namespace Hs
open PySem PySem.Spec PySem.Calls PyProof.Rows PySem.W
section
variable {prog : Program} {w : World} {A : Around} {E : Value → Shared → Prop} {h : Heap} {g : Array GenState} {d : Drawn} {t : Nat} {os : OsState} {K : Frag} {a C : Addr} {o : Obj} {od : Obj} {f : Str} {v : Value}
theorem lookIn_ns {dx : Addr} {m : Str → Option Value} (hn : h.Ns1 dx m) (ho : h.get? dx = some od) (hv : m f = some v) : lookIn f od = some (some v) := by
  obtain ⟨o, es, ep, e, hd, _, _, hf⟩ := hn
  cases e.symm.trans ho
  unfold lookIn
  rw [hd]
  have q := (hf f).trans hv
  unfold nsFind findBy at q
  rw [← Array.find?_toList] at q
  dsimp only
  cases z : es.toList.find? (·.key.isStr f) with
  | none => rw [z] at q; cases q
  | some en => rw [z] at q; exact congrArg _ q
end
end Hs
namespace Hs
open PySem PySem.Spec PyProof.Rows L2
def XO (e C : Addr) (od : Option Addr) : HO := .ext fun h => ∃ vs sl, h.get? e = some ⟨.ref C, od, .fields vs, sl⟩
section
variable {X : Cx} {e C S fI : Addr} {b : Bool} {cv : V} {cu : Value} {od : Option Addr} {x f p fld : Str} {np cpos pos : Pos} {a : Expr} {ta : TE} {t : TA} {j : Nat} {pts : List Expr} {tp : Pos}
def Kept (H : Hp) (e C : Addr) (od : Option Addr) : Prop := H e = some (XO e C od) ∧ (od = none ∨ ∃ dx fs, od = some dx ∧ H dx = some (.xd fs))
theorem Kept.same {H H' : Hp} (k : Kept H e C od) (s : Same H H') : Kept H' e C od := ⟨s _ _ k.1, k.2.imp id fun ⟨dx, fs, a, b⟩ => ⟨dx, fs, a, s _ _ b⟩⟩
end
section
variable {X : Cx} {e C S fI : Addr} {b : Bool} {cv : V} {cu : Value} {od : Option Addr} {x f p fld : Str} {np cpos pos : Pos} {a : Expr} {ta : TE} {t : TA} {j : Nat} {pts : List Expr} {tp : Pos}
end
end Hs
set_option Elab.async false
set_option linter.all false
set_option maxRecDepth 100000
namespace Hs
open PySem PySem.Spec PySem.Calls PyProof.Rows
section
variable {M : Model} {prog : Program} {w : World} {A : Around} {E : Value → Shared → Prop} {env : Env}
variable {nm q : Str} {C N : Addr} {bs bm : List Value} {hdct : Bool} {sn : List Str} {sub : List Value} {ab : Bool} {col : Option Bool} {dd : Option Addr} {k0 k1 k2 k3 k5 : Option Value} {newId : String}
end
end Hs
namespace Hs
open PySem PySem.Spec PyProof.Rows L2
section
variable {X : Cx} {E : L2.St → XK} {e C S fI : Addr} {b : Bool} {cv : V} {cu : Value} {od : Option Addr} {x f p fld : Str} {np cpos pos : Pos} {a : Expr} {ta : TE} {t : TA} {j : Nat} {pts : List Expr} {tp : Pos} {oe : Obj}
def OdOk (H : Hp) (od : Option Addr) : Prop := od = none ∨ ∃ dx fs, od = some dx ∧ H dx = some (.xd fs)
theorem OdOk.same {H H' : Hp} (k : OdOk H od) (s : Same H H') : OdOk H' od := k.imp id fun ⟨dx, fs, a, b⟩ => ⟨dx, fs, a, s _ _ b⟩
end
end Hs
set_option Elab.async false
set_option linter.all false
set_option maxRecDepth 100000
namespace Hs
open PySem PySem.Spec PyProof.Rows L2
section
variable {X : Cx} {E : L2.St → XK} {S S2 : Addr} {x x2 n : Str} {np hpos np2 hpos2 pos : Pos} {b0 b02 : Stmt} {body suite suite2 : List Stmt} {tb : TS} {th th2 : Addr → Obj → TS} {i : Nat}
end
end Hs
set_option Elab.async false
set_option linter.all false
set_option maxRecDepth 100000
set_option maxHeartbeats 1000000
namespace Hs
open PySem L2
theorem dpA_ints {K : PySem.W.Frag} {H : Hp} : ∀ xs : List Int, DpAll K H (xs.map V.int) (xs.map PyData.int)
  | [] => .nil
  | x :: r => .cons (.int x) (dpA_ints r)
theorem gd_ints (k : Nat) {xs : List Int} (h : xs.length ≤ 401) : Gd (k + 1) (.tuple (xs.map PyData.int)) := Gd.tup (fun d hd => by
  obtain ⟨i, _, rfl⟩ := List.mem_map.mp hd
  exact gd_i k i) (by rw [List.length_map]; omega)
section
variable {P : Program} {w : World} {K : PySem.W.Frag} {mg : Str → Option Value} {base : Heap} {f : Addr} {fd : FuncData} {cN cS cR : Addr} {D : Nat → Addr}
end
end Hs
set_option Elab.async false
set_option linter.all false
set_option maxRecDepth 100000
set_option maxHeartbeats 1000000
namespace PySem
namespace SetTable
def Ris (xs : Array Nat) : Prop := xs.toList.Pairwise (· < ·)
theorem Ris.at {xs : Array Nat} (R : Ris xs) {a b x y : Nat} (ha : xs[a]? = some x) (hb : xs[b]? = some y) (h : a < b) : x < y := by
  rw [← Array.getElem?_toList] at ha hb
  obtain ⟨h1, e1⟩ := List.getElem?_eq_some_iff.mp ha
  obtain ⟨h2, e2⟩ := List.getElem?_eq_some_iff.mp hb
  rw [← e1, ← e2]
  exact List.pairwise_iff_getElem.mp R a b h1 h2 h
def Cuts (xs : Array Nat) (j r : Nat) : Prop := r ≤ xs.size ∧ (∀ i x, i < r → xs[i]? = some x → x < j) ∧ ∀ i x, r ≤ i → xs[i]? = some x → j ≤ x
theorem below_go {xs : Array Nat} {j : Nat} (R : Ris xs) : ∀ fuel lo hi, hi - lo ≤ fuel → lo ≤ hi → hi ≤ xs.size → (∀ i x, i < lo → xs[i]? = some x → x < j) → (∀ i x, hi ≤ i → xs[i]? = some x → j ≤ x) → Cuts xs j (below.go xs j fuel lo hi)
  | 0, lo, hi, h1, h2, h3, h4, h5 => by
    have : lo = hi := by omega
    subst this
    exact ⟨h3, h4, h5⟩
  | fuel + 1, lo, hi, h1, h2, h3, h4, h5 => by
    unfold below.go
    by_cases c : lo < hi
    · rw [if_pos c]
      dsimp only
      have hm : (lo + hi) / 2 < xs.size := by omega
      have em : xs[(lo + hi) / 2]? = some (xs[(lo + hi) / 2]) := Array.getElem?_eq_getElem hm
      have eg : xs.getD ((lo + hi) / 2) j = xs[(lo + hi) / 2] := by simp [Array.getD, hm]
      by_cases c2 : xs.getD ((lo + hi) / 2) j < j
      · rw [if_pos c2]
        rw [eg] at c2
        refine below_go R fuel _ hi (by omega) (by omega) h3 (fun i x hi' ex => ?_) h5
        rcases Nat.lt_or_ge i ((lo + hi) / 2) with z | z
        · exact Nat.lt_trans (R.at ex em z) c2
        · have : i = (lo + hi) / 2 := by omega
          subst this
          rw [em] at ex
          rw [← Option.some.inj ex]; exact c2
      · rw [if_neg c2]
        rw [eg] at c2
        refine below_go R fuel lo _ (by omega) (by omega) (by omega) h4 (fun i x hi' ex => ?_)
        rcases Nat.lt_or_ge ((lo + hi) / 2) i with z | z
        · have := R.at em ex z; omega
        · have : i = (lo + hi) / 2 := by omega
          subst this
          rw [em] at ex
          rw [← Option.some.inj ex]; omega
    · rw [if_neg c]
      have : lo = hi := by omega
      subst this
      exact ⟨h3, h4, h5⟩
theorem below_cuts {xs : Array Nat} (R : Ris xs) (j : Nat) : Cuts xs j (below xs j) :=
  below_go R _ 0 _ (Nat.le_refl _) (Nat.zero_le _) (Nat.le_refl _) (fun i x h => absurd h (Nat.not_lt_zero _)) fun i x h e => by
    have := (Array.getElem?_eq_some_iff.mp e).1
    omega
theorem Cuts.one {xs : Array Nat} {j r r' : Nat} (h : Cuts xs j r) (h' : Cuts xs j r') : r = r' := by
  rcases Nat.lt_trichotomy r r' with z | z | z
  · have hr : r < xs.size := Nat.lt_of_lt_of_le z h'.1
    have e := Array.getElem?_eq_getElem hr
    have a := h.2.2 r _ (Nat.le_refl _) e
    have b := h'.2.1 r _ z e
    omega
  · exact z
  · have hr : r' < xs.size := Nat.lt_of_lt_of_le z h.1
    have e := Array.getElem?_eq_getElem hr
    have a := h'.2.2 r' _ (Nat.le_refl _) e
    have b := h.2.1 r' _ z e
    omega
theorem Ris.put {xs : Array Nat} (R : Ris xs) {j : Nat} (h : xs[below xs j]? ≠ some j) : Ris (insertAt xs (below xs j) j) := by
  have c := below_cuts R j
  generalize below xs j = p at c h
  obtain ⟨c1, c2, c3⟩ := c
  unfold Ris
  rw [toList_insertAt]
  have hlt : ∀ x ∈ xs.toList.take p, x < j := fun x hx => by
    obtain ⟨i, hi, e⟩ := List.getElem_of_mem hx
    rw [List.getElem_take] at e
    rw [List.length_take] at hi
    exact c2 i x (by omega) (by rw [← Array.getElem?_toList, List.getElem?_eq_getElem (by omega), e])
  have hgt : ∀ x ∈ xs.toList.drop p, j < x := fun x hx => by
    obtain ⟨i, hi, e⟩ := List.getElem_of_mem hx
    rw [List.getElem_drop] at e
    rw [List.length_drop] at hi
    have ex : xs[p + i]? = some x := by rw [← Array.getElem?_toList, List.getElem?_eq_getElem (by omega), e]
    have hp : p < xs.size := by simp at hi; omega
    have ep : xs[p]? = some xs[p] := Array.getElem?_eq_getElem hp
    have h1 := c3 p _ (Nat.le_refl _) ep
    have h2 : xs[p] ≠ j := fun z => h (by rw [ep, z])
    rcases Nat.eq_zero_or_pos i with z | z
    · subst z
      rw [Nat.add_zero, ep] at ex
      have := Option.some.inj ex
      omega
    · have := R.at ep ex (by omega)
      omega
  refine List.pairwise_append.mpr ⟨R.sublist (List.take_sublist _ _), List.pairwise_cons.mpr ⟨hgt, R.sublist (List.drop_sublist _ _)⟩, fun a ha b hb => ?_⟩
  rcases List.mem_cons.mp hb with rfl | hb
  · exact hlt a ha
  · exact Nat.lt_trans (hlt a ha) (hgt b hb)
end SetTable
end PySem
set_option Elab.async false
set_option linter.all false
set_option maxRecDepth 100000
set_option maxHeartbeats 4000000
namespace PySem
open PySem.Spec PyProof.Rows
def byTxt (w : World) : Bool := w.params.followText "set-order"
def LedT (w : World) (t : SetTable) : Prop := t.led = !byTxt w ∧ SetTable.Ris t.place
section
variable {K : Type} [DecidableEq K] {prog : Program} {w : World} {knd : KeyKind prog w K}
def SetL (knd : KeyKind prog w K) (h : Heap) (a : Addr) (S : K → Bool) (n : Nat) : Prop :=
  ∃ o es ep t, h.get? a = some o ∧ o.ExactSet ∧ o.data = .set es ep t ∧ ElemsOf knd es.toList ∧ (∀ k, S k = true ↔ ∃ e ∈ es.toList, knd.is k e.2 = true) ∧ es.size < scanBound ∧ t.fits es.size = true ∧ es.size = n ∧ LedT w t
theorem SetL.setOf {h : Heap} {a : Addr} {S : K → Bool} {n : Nat} (x : SetL knd h a S n) : h.SetOf knd a S n := by
  obtain ⟨o, es, ep, t, h1, h2, h3, h4, h5, h6, h7, h8, _⟩ := x
  exact ⟨o, es, ep, t, h1, h2, h3, h4, h5, h6, h7, h8⟩
variable {A : Around} {E : Value → Shared → Prop} {s : Shared}
end
section
variable {K : Type} [DecidableEq K] {prog : Program} {w : World} {knd : KeyKind prog w K} {A : Around} {E : Value → Shared → Prop} {s : Shared}
variable {R : Result → Shared → Prop} {I : Addr} {fp wr : List Addr} {G : Array GenState → Array GenState → Prop} {n : Nat} {P : Nat → Value → Prop} {St : Nat → Shared → Prop}
end
end PySem
set_option Elab.async false
set_option linter.all false
set_option maxRecDepth 100000
set_option maxHeartbeats 4000000
namespace PySem
open PySem.Spec PyProof.Rows
section
variable {K : Type} [DecidableEq K] {prog : Program} {w : World} {knd : KeyKind prog w K} {A : Around} {E : Value → Shared → Prop} {s : Shared}
end
end PySem
set_option Elab.async false
set_option linter.all false
set_option maxRecDepth 100000
set_option maxHeartbeats 4000000
namespace L2
open PySem PySem.Spec PyProof.Rows
section
variable {X : Cx}
end
end L2
set_option Elab.async false
set_option linter.all false
set_option maxRecDepth 100000
set_option maxHeartbeats 4000000
namespace L2
open PySem PySem.Spec PyProof.Rows
theorem kds_of_code {K : PySem.W.Frag} {cd : Value} {q : Str} (e : PySem.W.codeIn K cd q = true) : PySem.W.kdsCode K cd = true := by
  cases cd with
  | ref c =>
    unfold PySem.W.codeIn at e
    unfold PySem.W.kdsCode
    dsimp only at e ⊢
    revert e
    cases K.lookup c with
    | none => exact fun e => e
    | some o =>
      obtain ⟨a, b, d, f⟩ := o
      cases d <;> first | exact fun _ => rfl | exact fun e => e
  | _ => exact absurd e Bool.false_ne_true
section
variable {P : Program} {w : World} {K : PySem.W.Frag} {mg : Str → Option Value} {base : Heap}
theorem Fun.okC {x qual : Str} {st : Stmt} {f : Addr} {fd : FuncData} {N ps : List Str} {k : Nat} {sp : Sp} (F : Fun K x qual st f fd) (S : FnScope N ps (defScope st)) (len : ∀ vs H Q E, sp vs H Q E → vs.length = ps.length)
    (hbody : ∀ (cdv : Value) (A : Around) (outer : List Env) (s : Shared) (H : Hp) (vs : List V) (Q : VK) (E : XK), PySem.W.codeIn K cdv qual = true → Room k (A.deeper (envOfC qual (defScope st) s.heap.objs.size f cdv)) → sp vs H Q E →
      ∃ t, PSs (cxOf CX0 P w K mg base N qual (defScope st) f cdv A outer s H E).nox (defBody st) t ∧ t { nx := fun _ H' => Q .non H', rt := Q } (start N vs) H) : FnOk P w K mg base CX0 (k + 1) f fd ps sp := by
  obtain ⟨oc, od, kV, doc, pm, an, cdv, ct, osl, rfl, lk, hcd⟩ := F.ex
  exact fn_of lk hcd S len fun A outer s H vs Q E hr hsp => let ⟨t, h, q⟩ := hbody cdv A outer s H vs Q E hcd hr hsp; ⟨t, h.nox, q⟩
end
section
variable {X : Cx}
def tSet1 (te : TE) : TE := fun σ H Q => ∀ D, H D = none → te σ (upd H D (.set (fun _ => false) 0)) fun x H1 => ∃ i, x = .int i ∧ H1 D = some (.set (fun _ => false) 0) ∧ Q (.ref D) (upd H1 D (.set (fun k => decide (k = i)) 1))
theorem unled_wp {a : Addr} {S : Int → Bool} {n : Nat} {s : Shared} {A : Around} {E : Value → Shared → Prop} {Q : Unit → Shared → Prop} (hS : s.heap.SetOf (intKind X.prog X.w) a S n) (q : ∀ h', Heap.SameBut a s.heap h' → h'.SetOf (intKind X.prog X.w) a S n → Q () { s with heap := h' }) :
    wpAny (model X.prog X.w) A (setUnled a) Q E s := by
  obtain ⟨o, es, ep, t, ho, hex, hd, hel, hm, hb, hf, rfl⟩ := hS
  unfold setUnled
  refine wpAny_bind (wpAny_setState_of ho hd hf (wpAny_storeSet_of ho hd ?_ (fits_of_scanBound hb)))
  exact q _ (Heap.SameBut.update _ a _) (SetOf_store (knd := intKind X.prog X.w) (t' := { t with led := false }) ho hex hd hel hm hb (by exact hf)).2
theorem pe_set1 {e : Expr} {k : Nat} {pos : Pos} {te : TE} (hc : PySem.W.kdsCode X.K X.env.code = true) (hroad : (displayRoad k [e] == .constants) = false) (hp : PySem.W.kdsPlain e = true) (h : PE X e te) : PE X (.Set [e] k pos) (tSet1 te) := by
  intro pins s σ H Q I q
  rw [arm_eval_Set]
  refine wpAny_bind (wpAny_standAt ?_)
  refine wpAny_bind (PySem.W.kds_main I.kIn hc fun b => ?_)
  rw [PySem.W.kds_star [e] (by rw [List.all_cons, hp]; rfl), List.map_map]
  refine PySem.W.kds_core (ts := (evalEach [e] X.env).map fun t => do let v ← t; standAt pos; pure v) hroad ?_ ?_ ?_ fun led => ?_
  · refine List.findIdx?_eq_none_iff.mpr fun x hx => ?_
    obtain ⟨t, _, rfl⟩ := List.mem_map.mp hx
    rfl
  · rw [List.length_map, PySem.W.kds_len]; exact (by decide : 1 ≤ 30)
  · rw [List.map_map]; rfl
  · have new : (s.heap.push { cls := .type "set", dict := none, data := .set #[] 0 (.fresh 0 0 led) }).SetOf (intKind X.prog X.w) s.heap.objs.size (fun _ => false) 0 := (Obj.IntSetOf.kind (intSetOf_fresh led) X.prog X.w).setOf (Heap.get?_push_size _ rfl) (by decide)
    have I1 := I.laid (t' := s.toks) (o := .set (fun _ => false) 0) (fun b ob e => Heap.get?_push_of_some _ e) (Nat.le_refl _) new
    have q1 := q _ (I.hok.fresh (Nat.le_refl _))
    refine PySem.W.kds_all pos [e] _ _ (wpAny_mono (h pins _ σ _ _ I1 q1) (fun u s2 ⟨x, H1, I2, rx, i, ex, hD, q2⟩ => ?_) fun _ _ z => z)
    subst ex
    obtain ⟨t, rfl⟩ := rx
    have hS : s2.heap.SetOf (intKind X.prog X.w) s.heap.objs.size (fun _ => false) 0 := I2.hok _ _ hD
    refine PySem.W.kds_fill_cons ?_
    unfold setAdd
    refine wpAny_holding (wpAny_bind ((intKind X.prog X.w).pyHash (k := i) (intKind_is _ _ _ _) ?_))
    refine wpAny_setAddHashed_of (knd := intKind X.prog X.w) (s := { s2 with toks := s2.toks + 1 }) (intKind_is _ _ _ _) rfl hS (by decide) fun h' sb hS' => ?_
    have eS : (fun k' : Int => false || decide (k' = i)) = fun k' => decide (k' = i) := by funext k'; simp
    rw [eS] at hS'
    have wr : ∀ (h'' : Heap) (tk : Nat), (∀ b, b ≠ s.heap.objs.size → h''.get? b = s2.heap.get? b) → h''.SetOf (intKind X.prog X.w) s.heap.objs.size (fun k' => decide (k' = i)) 1 → EP X pins σ Q (.ref s.heap.objs.size) { s2 with heap := h'', toks := tk } := fun h'' tk sb2 hS2 =>
      ⟨.ref s.heap.objs.size, _, I2.write (x := s.heap.objs.size) (e := s.heap.objs.size) (o := .set (fun k => decide (k = i)) 1) (by rw [hD]; exact trivial) (.inl rfl) (fun b ob hb e => (sb2 b hb).trans e) (by obtain ⟨o, _, _, _, e, _⟩ := hS2; exact ⟨o, e⟩) hS2, rfl, q2⟩
    cases hu : (displayRoad k [e] == .unsure) with
    | false => exact PySem.W.kds_fill_nil rfl (wr h' _ (fun b hb => sb.2 b hb) hS')
    | true =>
      refine PySem.W.kds_fill_unled rfl (unled_wp (s := { s2 with heap := h', toks := s2.toks + 1 }) hS' fun h2 sb2 hS2 => ?_)
      exact wr h2 _ (fun b hb => (sb2.2 b hb).trans (sb.2 b hb)) hS2
end
end L2
set_option Elab.async false
set_option linter.all false
set_option maxRecDepth 100000
set_option maxHeartbeats 1000000
namespace L2
open PySem PySem.Spec PyProof.Rows
section
variable {X : Cx}
def tStar (K : PySem.W.Frag) (te : TE) (t : TA) : TA := fun σ H Q => te σ H fun x H1 => ∃ (a : Addr) (xs : List V), x = .ref a ∧ (SqL K H1 a xs ∨ SqT K H1 a xs) ∧ t σ H1 fun ys H2 => Q (xs ++ ys) H2
theorem _root_.L2.Vals.app {xs ys : List V} {us vs : List Value} (h : Vals xs us) (k : Vals ys vs) : Vals (xs ++ ys) (us ++ vs) := by
  induction h with
  | nil => exact k
  | cons r _ ih => exact .cons r ih
theorem pa_star {e : Expr} {es : List Expr} {p : Pos} {te : TE} {t : TA} (h : PE X e te) (hr : PA X es t) (he : starEach (.Starred e p :: es) X.env = (true, eval e X.env) :: starEach es X.env := by rfl) : PA X (.Starred e p :: es) (tStar X.K te t) := by
  intro pos pins s σ H Q I q
  refine PySem.W.items_star (thn (h pins s σ H _ I q) fun u s1 ⟨x, H1, I1, rx, a, xs, ex, hx, q1⟩ => ?_) he
  subst ex
  obtain rfl : u = Value.ref a := rx
  have rest : ∀ (its : List Value), Vals xs its → ∀ h', (∀ b o, s1.heap.get? b = some o → h'.get? b = some o) → wpAny (model X.prog X.w) X.A (spliced (backTo pos (starEach es X.env))) (fun vs s₃ => AP X pins σ Q (its ++ vs) s₃) X.xe { s1 with heap := h' } := fun its r h' hk =>
    thn (hr pos pins { s1 with heap := h' } σ H1 _ (I1.kept (t' := s1.toks) hk) q1) fun us s2 ⟨ys, H2, I2, r2, q2⟩ => ⟨xs ++ ys, H2, I2, Vals.app r r2, q2⟩
  rcases hx with hx | hx
  · obtain ⟨its, r, hl, z⟩ := I1.list hx
    obtain ⟨o, e1, e2, n, e3⟩ := hl.isList
    have hT : s1.TypeIs (.ref a) "list" := ⟨o, e1, e2⟩
    refine wpAny_bind (wpAny_specialOf hT PySem.F.slot_list_iter.lookup (wpAny_pure ⟨rfl, ?_⟩))
    refine wpAny_collect_seq a (.inl rfl) e1 e2 e3 (fun h' hk => ?_) (by rw [List.size_toArray, ← r.length]; exact z)
    rw [List.toList_toArray]
    exact rest its r h' hk
  · obtain ⟨its, r, hl, z⟩ := I1.tuple hx
    obtain ⟨o, e1, e2, n, e3⟩ := hl
    have hT : s1.TypeIs (.ref a) "tuple" := ⟨o, e1, e2⟩
    refine wpAny_bind (wpAny_specialOf hT PySem.F.slot_tuple_iter.lookup (wpAny_pure ⟨rfl, ?_⟩))
    refine wpAny_collect_seq a (.inr rfl) e1 e2 e3 (fun h' hk => ?_) (by rw [List.size_toArray, ← r.length]; exact z)
    rw [List.toList_toArray]
    exact rest its r h' hk
end
end L2
set_option linter.all false
set_option maxRecDepth 100000
namespace Hs
theorem Lin.at {f : Int → Option Int} : ∀ {l : List Int}, Lin f l → ∀ (i : Nat) (x y : Int), l[i]? = some x → l[i + 1]? = some y → f x = some y
  | [], _, i, x, y, h, _ => by simp at h
  | [a], _, i, x, y, _, h => by simp at h
  | a :: b :: r, L, 0, x, y, h1, h2 => by cases h1; cases h2; exact L.1
  | a :: b :: r, L, i + 1, x, y, h1, h2 => Lin.at L.2 i x y h1 h2
theorem lin_of {f : Int → Option Int} : ∀ {l : List Int}, (∀ (i : Nat) (x y : Int), l[i]? = some x → l[i + 1]? = some y → f x = some y) → Lin f l
  | [], _ => trivial
  | [_], _ => trivial
  | a :: b :: r, h => ⟨h 0 a b rfl rfl, lin_of fun i x y h1 h2 => h (i + 1) x y h1 h2⟩
def rot (l : List Int) (k : Nat) : List Int := l.drop k ++ l.take k
theorem rot_len (l : List Int) {k : Nat} (h : k ≤ l.length) : (rot l k).length = l.length := by unfold rot; simp; omega
theorem rot_mem {l : List Int} {k : Nat} {z : Int} : z ∈ rot l k ↔ z ∈ l := by
  unfold rot
  have : l.take k ++ l.drop k = l := List.take_append_drop k l
  constructor
  · intro h
    rw [← this]
    rcases List.mem_append.mp h with q | q
    · exact List.mem_append_right _ q
    · exact List.mem_append_left _ q
  · intro h
    rw [← this] at h
    rcases List.mem_append.mp h with q | q
    · exact List.mem_append_right _ q
    · exact List.mem_append_left _ q
theorem rot_at {l : List Int} {k i : Nat} (h : k < l.length) : (rot l k)[i]? = if i < l.length - k then l[k + i]? else if i < l.length then l[i - (l.length - k)]? else none := by
  unfold rot
  by_cases c : i < l.length - k
  · rw [if_pos c, List.getElem?_append_left (by simp; omega), List.getElem?_drop]
  · rw [if_neg c, List.getElem?_append_right (by simp; omega)]
    simp only [List.length_drop]
    by_cases d : i < l.length
    · rw [if_pos d, List.getElem?_take, if_pos (by omega)]
    · rw [if_neg d, List.getElem?_take, if_neg (by omega)]
theorem last_at {l : List Int} : l.getLast? = l[l.length - 1]? := List.getLast?_eq_getElem?
theorem rot_trail {f : Int → Option Int} {h : Int} {l : List Int} (t : Trail f h h l) (nd : l.Nodup) (cl : ∀ z, l.getLast? = some z → f z = some h) {k : Nat} {x : Int} (hx : l[k]? = some x) :
    Trail f x x (rot l k) ∧ ∀ z, (rot l k).getLast? = some z → f z = some x := by
  have L := t.lin
  obtain ⟨r0, er0⟩ := t.head
  have h0 : l[0]? = some h := by rw [er0]; rfl
  obtain ⟨hk, ek⟩ := List.getElem?_eq_some_iff.mp hx
  have lastC : ∀ z, (rot l k).getLast? = some z → f z = some x := fun z hz => by
    rw [last_at, rot_len l (by omega), rot_at hk] at hz
    by_cases k0 : k = 0
    · subst k0
      rw [if_pos (by omega)] at hz
      rw [h0] at hx; cases hx
      exact cl z (by rw [last_at, ← hz]; congr 1; omega)
    · rw [if_neg (by omega), if_pos (by omega)] at hz
      refine L.at (k - 1) z x ?_ (by rw [← hx]; congr 1; omega)
      rw [← hz]; congr 1; omega
  have LR : Lin f (rot l k) := lin_of fun i a b ha hb => by
    rw [rot_at hk] at ha hb
    by_cases c : i + 1 < l.length - k
    · rw [if_pos (by omega)] at ha
      rw [if_pos c] at hb
      exact L.at (k + i) a b ha hb
    · rw [if_neg c] at hb
      by_cases c2 : i < l.length - k
      · rw [if_pos c2] at ha
        have e : i + 1 - (l.length - k) = 0 := by omega
        split at hb
        · rw [e, h0] at hb; cases hb
          exact cl a (by rw [last_at, ← ha]; congr 1; omega)
        · cases hb
      · rw [if_neg c2] at ha
        split at hb
        · rw [if_pos (by omega)] at ha
          refine L.at (i - (l.length - k)) a b ha ?_
          rw [← hb]; congr 1; omega
        · cases hb
  have e : rot l k = x :: (l.drop (k + 1) ++ l.take k) := by
    unfold rot
    rw [List.drop_eq_getElem_cons hk, ek]; rfl
  have nx : ∀ z ∈ l.drop (k + 1) ++ l.take k, z ≠ x := fun z hz q => by
    subst q
    rcases List.mem_append.mp hz with q | q
    · obtain ⟨j, hj⟩ := List.getElem?_of_mem q
      rw [List.getElem?_drop] at hj
      have := nd_at nd hx hj
      omega
    · obtain ⟨j, hj⟩ := List.getElem?_of_mem q
      rw [List.getElem?_take] at hj
      split at hj
      · have := nd_at nd hx hj
        omega
      · cases hj
  refine ⟨?_, lastC⟩
  have lc := lastC
  rw [e] at LR lc ⊢
  exact trail_of_lin LR nx fun z hz => .inr (lc z hz)
theorem Trail.round_last {f : Int → Option Int} {h0 x : Int} {l : List Int} (t : Trail f h0 x l) : ∀ z ∈ l, f z = some h0 → l.getLast? = some z := by
  induction t with
  | @last x h => intro z hz _; rw [List.mem_singleton.mp hz]; rfl
  | @step x y l h hy t ih =>
    intro z hz e
    obtain ⟨r, rfl⟩ := t.head
    rcases List.mem_cons.mp hz with q | hz
    · rw [q, h] at e; exact absurd (Option.some.inj e) hy
    · rw [List.getLast?_cons_cons]; exact ih z hz e
section
variable {on : List Int} {ms : List (Option Int)} (S : SkinOk on ms)
include S
theorem SkinOk.patC {h : Int} (g : InR on.length h) : ∀ z, (patL on h).getLast? = some z → onwF on z = some h := fun z hz => by
  obtain ⟨z', e', q⟩ := (S.pat g).1.fin
  rw [hz] at e'; cases e'
  rcases q with q | q
  · cases q
  · exact q
theorem SkinOk.patR {h x : Int} {k : Nat} (g : InR on.length h) (hx : (patL on h)[k]? = some x) : patL on x = rot (patL on h) k := by
  obtain ⟨t, nd, rg, len⟩ := S.pat g
  have hk := (List.getElem?_eq_some_iff.mp hx).1
  exact trl_of (rot_trail t nd (S.patC g) hx).1 _ (by rw [rot_len _ (by omega)]; omega)
theorem SkinOk.rimC {h : Int} (g : InR on.length h) (e : lkM ms h = none) : ∀ z, (rimL on ms h).getLast? = some z → rimF on ms z = some h := fun z hz => by
  obtain ⟨z', e', q⟩ := (S.rim g).1.fin
  rw [hz] at e'; cases e'
  rcases q with q | q
  · have := (S.rim_free g e z (List.mem_of_getLast? hz)).2
    unfold rimF at q
    rw [if_pos this] at q; cases q
  · exact q
theorem SkinOk.rimR {h x : Int} {k : Nat} (g : InR on.length h) (e : lkM ms h = none) (hx : (rimL on ms h)[k]? = some x) : rimL on ms x = rot (rimL on ms h) k := by
  obtain ⟨t, nd, rg, len⟩ := S.rim g
  have hk := (List.getElem?_eq_some_iff.mp hx).1
  exact trl_of (rot_trail t nd (S.rimC g e) hx).1 _ (by rw [rot_len _ (by omega)]; omega)
theorem SkinOk.knotC {h x z : Int} {k : Nat} (g : InR on.length h) (hz : (knotL on ms h).getLast? = some z) (e : lefM on ms z = some (fstK on ms h)) (hx : (knotL on ms h)[k]? = some x) : knotL on ms x = rot (knotL on ms h) k := by
  obtain ⟨t, nd, rg, len⟩ := S.knot g
  have hk := (List.getElem?_eq_some_iff.mp hx).1
  have gx := rg x (List.mem_of_getElem? hx)
  obtain ⟨t2, c2⟩ := rot_trail t nd (fun z' hz' => by rw [hz] at hz'; cases hz'; exact e) hx
  obtain ⟨w, hw, _⟩ := t2.fin
  have fx : fstK on ms x = x := S.round gx t2 (List.mem_of_getLast? hw) (c2 w hw)
  refine S.knot_of gx ?_ (by rw [rot_len _ (by omega)]; omega)
  rw [fx]; exact t2
theorem SkinOk.knotO1 {h z : Int} (g : InR on.length h) (hz : (knotL on ms h).getLast? = some z) (e : lefM on ms z = none) : rigM on ms (fstK on ms h) = none := by
  obtain ⟨t, nd, rg, len⟩ := S.knot g
  rcases (S.fst g).2 with q | q
  · exact q
  · obtain ⟨r, tr, _, hr, hl⟩ := S.rigT g
    obtain ⟨w, hw, q2⟩ := fstF_of tr on.length hl
    rcases q2 with ⟨a, b⟩ | ⟨a, b⟩
    · unfold fstK; rw [b]; exact a
    · rw [q] at t
      exact absurd a (S.open' g t (List.mem_of_getLast? hz) e tr w hw)
theorem SkinOk.knotO {h x z : Int} (g : InR on.length h) (hz : (knotL on ms h).getLast? = some z) (e : lefM on ms z = none) (hx : x ∈ knotL on ms h) : knotL on ms x = knotL on ms h := by
  obtain ⟨t, nd, rg, len⟩ := S.knot g
  have r0 := S.knotO1 g hz e
  have gx := rg x hx
  obtain ⟨hd, ehd⟩ := t.head
  have back : ∀ y ∈ knotL on ms h, y = fstK on ms h ∨ ∃ w ∈ knotL on ms h, rigM on ms y = some w := fun y hy => by
    rcases t.from y hy with q | ⟨w, hw, q⟩
    · exact .inl q
    · exact .inr ⟨w, hw, S.lefG (rg w hw) q⟩
  obtain ⟨r, tr, _, hr, hl⟩ := S.rigT gx
  obtain ⟨r1, er1⟩ := tr.head
  have xr : x ∈ r := by rw [er1]; simp
  have inW : ∀ y ∈ r, y ∈ knotL on ms h := tr.all (P := fun y => y ∈ knotL on ms h) hx fun a b ha q => by
    rcases back a ha with q2 | ⟨w, hw, q2⟩
    · rw [q2, r0] at q; cases q
    · rw [q] at q2; cases q2; exact hw
  obtain ⟨w, hw, q⟩ := fstF_of tr on.length hl
  have fx : fstK on ms x = fstK on ms h := by
    rcases q with ⟨a, b⟩ | ⟨a, b⟩
    · have : fstK on ms x = w := b
      rw [this]
      rcases back w (inW w hw) with q2 | ⟨w2, _, q2⟩
      · exact q2
      · rw [a] at q2; cases q2
    · exfalso
      have some_ : ∀ y ∈ r, ∃ y' ∈ r, rigM on ms y = some y' := fun y hy => by
        cases ey : rigM on ms y with
        | none =>
          have l1 := tr.none_last y hy ey
          have l2 := tr.round_last w hw a
          rw [l1] at l2; cases l2
          rw [ey] at a; cases a
        | some y' =>
          rcases tr.into y hy y' ey with q2 | q2
          · exact ⟨y', by rw [q2]; exact xr, rfl⟩
          · exact ⟨y', q2, rfl⟩
      have go : ∀ (k : Nat) (y : Int), (knotL on ms h)[k]? = some y → y ∈ r → fstK on ms h ∈ r := by
        intro k
        induction k with
        | zero => intro y hy hr'; rw [ehd] at hy; cases hy; exact hr'
        | succ k ih =>
          intro y hy hr'
          have hk := (List.getElem?_eq_some_iff.mp hy).1
          have hw' : (knotL on ms h)[k]? = some (knotL on ms h)[k] := List.getElem?_eq_getElem (by omega)
          have q2 := t.lin.at k _ y hw' hy
          have q3 := S.lefG (rg _ (List.mem_of_getElem? hw')) q2
          obtain ⟨y', hy', q4⟩ := some_ y hr'
          rw [q3] at q4
          exact ih _ hw' (by rw [Option.some.inj q4]; exact hy')
      obtain ⟨k, hk⟩ := List.getElem?_of_mem hx
      have fr := go k x hk xr
      obtain ⟨y', _, q4⟩ := some_ _ fr
      rw [r0] at q4; cases q4
  show trl _ (fstK on ms x) _ _ = _
  rw [fx]; rfl
theorem SkinOk.self_knot {h : Int} (g : InR on.length h) : h ∈ knotL on ms h := by
  obtain ⟨t, nd, rg, len⟩ := S.knot g
  obtain ⟨r, tr, _, hr, hl⟩ := S.rigT g
  obtain ⟨r1, er1⟩ := tr.head
  obtain ⟨w, hw, q⟩ := fstF_of tr on.length hl
  obtain ⟨hd, ehd⟩ := t.head
  rcases q with ⟨a, b⟩ | ⟨a, b⟩
  · have fw : fstK on ms h = w := b
    have lw := tr.none_last w hw a
    exact S.back tr hr (by rw [ehd, fw]; simp) (by rw [lw, fw]) t h (by rw [er1]; simp)
  · have fw : fstK on ms h = h := b
    rw [ehd, fw]; simp
theorem SkinOk.knotE {h z : Int} (g : InR on.length h) (hz : (knotL on ms h).getLast? = some z) : lefM on ms z = none ∨ lefM on ms z = some (fstK on ms h) := by
  obtain ⟨w, hw, q⟩ := (S.knot g).1.fin
  rw [hz] at hw; cases hw
  exact q
theorem SkinOk.self_pat {h : Int} (g : InR on.length h) : h ∈ patL on h := by
  obtain ⟨r, e⟩ := (S.pat g).1.head
  rw [e]; simp
theorem SkinOk.self_rim {h : Int} (g : InR on.length h) : h ∈ rimL on ms h := by
  obtain ⟨r, e⟩ := (S.rim g).1.head
  rw [e]; simp
end
structure Parted (A : List Int) (g : Int → List Int) : Prop where
  cls : ∀ h ∈ A, h ∈ g h ∧ (g h).Nodup ∧ ∀ z ∈ g h, z ∈ A ∧ ∀ y, y ∈ g z ↔ y ∈ g h
theorem once_flat {g : Int → List Int} {A : List Int} (P : Parted A g) : ∀ (hs met : List Int), (∀ h ∈ hs, h ∈ A) → (∀ z ∈ A, z ∈ met → ∀ y ∈ g z, y ∈ met) →
    (onceF g met hs).flatten.Nodup ∧ ∀ z, z ∈ (onceF g met hs).flatten ↔ z ∉ met ∧ ∃ h ∈ hs, z ∈ g h
  | [], met, _, _ => ⟨by simp [onceF], fun z => by simp [onceF]⟩
  | h :: r, met, ha, hm => by
    by_cases m : h ∈ met
    · rw [once_skip m]
      obtain ⟨n, q⟩ := once_flat P r met (fun x hx => ha x (List.mem_cons_of_mem _ hx)) hm
      refine ⟨n, fun z => ?_⟩
      rw [q z]
      constructor
      · rintro ⟨a, x, hx, b⟩
        exact ⟨a, x, List.mem_cons_of_mem _ hx, b⟩
      · rintro ⟨a, x, hx, b⟩
        rcases List.mem_cons.mp hx with rfl | hx
        · exact absurd (hm x (ha x (by simp)) m z b) a
        · exact ⟨a, x, hx, b⟩
    · rw [once_take m]
      obtain ⟨hh, nd, cl⟩ := P.cls h (ha h (by simp))
      have hm2 : ∀ z ∈ A, z ∈ met ++ g h → ∀ y ∈ g z, y ∈ met ++ g h := fun z hz hzm y hy => by
        rcases List.mem_append.mp hzm with q | q
        · exact List.mem_append_left _ (hm z hz q y hy)
        · exact List.mem_append_right _ (((cl z q).2 y).mp hy)
      obtain ⟨n, q⟩ := once_flat P r (met ++ g h) (fun x hx => ha x (List.mem_cons_of_mem _ hx)) hm2
      have out : ∀ z ∈ g h, z ∉ met := fun z hz zm => m (hm z (cl z hz).1 zm h (((cl z hz).2 h).mpr hh))
      rw [List.flatten_cons]
      refine ⟨?_, fun z => ?_⟩
      · rw [List.nodup_append]
        refine ⟨nd, n, fun a hag b hb e => ?_⟩
        subst e
        exact ((q a).mp hb).1 (List.mem_append_right _ hag)
      · rw [List.mem_append, q z]
        constructor
        · rintro (a | ⟨a, x, hx, b⟩)
          · exact ⟨out z a, h, by simp, a⟩
          · exact ⟨fun zm => a (List.mem_append_left _ zm), x, List.mem_cons_of_mem _ hx, b⟩
        · rintro ⟨a, x, hx, b⟩
          by_cases zg : z ∈ g h
          · exact .inl zg
          · rcases List.mem_cons.mp hx with rfl | hx
            · exact absurd b zg
            · refine .inr ⟨fun zm => ?_, x, hx, b⟩
              rcases List.mem_append.mp zm with y | y
              · exact a y
              · exact zg y
theorem once_all {g : Int → List Int} {A : List Int} (P : Parted A g) : (onceF g [] A).flatten.Nodup ∧ ∀ z, z ∈ (onceF g [] A).flatten ↔ z ∈ A := by
  obtain ⟨n, q⟩ := once_flat P A [] (fun _ h => h) (fun z _ h => by cases h)
  refine ⟨n, fun z => ?_⟩
  rw [q z]
  constructor
  · rintro ⟨_, h, hh, hz⟩
    exact ((P.cls h hh).2.2 z hz).1
  · intro hz
    exact ⟨by simp, z, hz, (P.cls z hz).1⟩
theorem rngL_lt (n : Nat) : (rngL n).Pairwise (· < ·) := by
  unfold rngL
  rw [List.pairwise_map]
  exact List.pairwise_lt_range.imp fun h => by omega
section
variable {on : List Int} {ms : List (Option Int)} (S : SkinOk on ms)
include S
theorem SkinOk.part_knot : Parted (rngL on.length) (knotL on ms) := ⟨fun h hh => by
  have g := rngL_mem.mp hh
  obtain ⟨t, nd, rg, len⟩ := S.knot g
  refine ⟨S.self_knot g, nd, fun z hz => ⟨rngL_mem.mpr (rg z hz), fun y => ?_⟩⟩
  obtain ⟨w, hw, _⟩ := t.fin
  rcases S.knotE g hw with e | e
  · rw [S.knotO g hw e hz]
  · obtain ⟨k, hk⟩ := List.getElem?_of_mem hz
    rw [S.knotC g hw e hk, rot_mem]⟩
theorem SkinOk.part_pat : Parted (rngL on.length) (patL on) := ⟨fun h hh => by
  have g := rngL_mem.mp hh
  obtain ⟨t, nd, rg, len⟩ := S.pat g
  refine ⟨S.self_pat g, nd, fun z hz => ⟨rngL_mem.mpr (rg z hz), fun y => ?_⟩⟩
  obtain ⟨k, hk⟩ := List.getElem?_of_mem hz
  rw [S.patR g hk, rot_mem]⟩
theorem SkinOk.part_rim : Parted ((rngL on.length).filter fun h => decide (lkM ms h = none)) (rimL on ms) := ⟨fun h hh => by
  obtain ⟨a, b⟩ := List.mem_filter.mp hh
  have g := rngL_mem.mp a
  have e : lkM ms h = none := of_decide_eq_true b
  obtain ⟨t, nd, rg, len⟩ := S.rim g
  refine ⟨S.self_rim g, nd, fun z hz => ⟨?_, fun y => ?_⟩⟩
  · obtain ⟨q1, q2⟩ := S.rim_free g e z hz
    exact List.mem_filter.mpr ⟨rngL_mem.mpr q1, decide_eq_true q2⟩
  · obtain ⟨k, hk⟩ := List.getElem?_of_mem hz
    rw [S.rimR g e hk, rot_mem]⟩
theorem SkinOk.part_seam : Parted (rngL on.length) (gSeam ms) := ⟨fun h hh => by
  have g := rngL_mem.mp hh
  have mm : ∀ x, InR on.length x → ∀ y, y ∈ gSeam ms x ↔ y = x ∨ lkM ms x = some y := fun x gx y => by
    unfold gSeam
    cases e : lkM ms x with
    | none => simp
    | some m =>
      simp only
      split
      · simp [eq_comm]
      · simp [eq_comm, or_comm]
  refine ⟨(mm h g h).mpr (.inl rfl), ?_, fun z hz => ⟨rngL_mem.mpr ((gSeam_rng S g).1 z hz), fun y => ?_⟩⟩
  · unfold gSeam
    cases e : lkM ms h with
    | none => simp
    | some m =>
      have := (S.mate g e).2.2
      simp only
      split
      · simp [Ne.symm this]
      · simp [this]
  · have gz := (gSeam_rng S g).1 z hz
    rw [mm z gz, mm h g]
    rcases (mm h g z).mp hz with q | q
    · rw [q]
    · have q2 := (S.mate g q).2.1
      rw [q2]
      constructor
      · rintro (a | a)
        · exact .inr (by rw [q, a])
        · exact .inl (Option.some.inj a).symm
      · rintro (a | a)
        · exact .inr (by rw [a])
        · rw [q] at a; exact .inl (Option.some.inj a).symm⟩
end
end Hs
set_option linter.all false
set_option maxRecDepth 100000
set_option maxHeartbeats 1000000
namespace Hs
def NxRow (row : List Int) (a b : Int) : Prop := ∃ j, j < row.length ∧ row[prv row.length j]? = some a ∧ row[j]? = some b
theorem nx_split {row : List Int} {a b : Int} : NxRow row a b ↔ ∃ u v, row = u ++ a :: v ∧ (v ++ u ++ [a]).head? = some b := by
  constructor
  · rintro ⟨j, hj, ha, hb⟩
    obtain ⟨hi, ea⟩ := List.getElem?_eq_some_iff.mp ha
    have er : row = row.take (prv row.length j) ++ a :: row.drop (prv row.length j + 1) := by
      rw [← ea, ← List.drop_eq_getElem_cons hi, List.take_append_drop]
    refine ⟨row.take (prv row.length j), row.drop (prv row.length j + 1), er, ?_⟩
    by_cases z : j = 0
    · subst z
      have e1 : prv row.length 0 + 1 = row.length := by unfold prv; rw [if_pos rfl]; omega
      rw [e1, List.drop_length] at er ⊢
      rw [List.nil_append, ← er, List.head?_eq_getElem?]
      exact hb
    · have e1 : prv row.length j + 1 = j := by unfold prv; rw [if_neg z]; omega
      rw [e1, List.append_assoc, List.head?_append, List.head?_drop, hb]
      rfl
  · rintro ⟨u, v, rfl, h⟩
    cases v with
    | nil =>
      refine ⟨0, by simp, ?_, ?_⟩
      · unfold prv; rw [if_pos rfl]; simp
      · rw [← List.head?_eq_getElem?]; simpa using h
    | cons c v =>
      refine ⟨u.length + 1, by simp, ?_, ?_⟩
      · unfold prv; rw [if_neg (by omega)]; simp
      · have : c = b := by simpa using h
        subst this
        rw [List.getElem?_append_right (by omega)]
        simp
theorem nx_mem {row : List Int} {a b : Int} (h : NxRow row a b) : a ∈ row ∧ b ∈ row := by
  obtain ⟨j, _, ha, hb⟩ := h
  exact ⟨List.mem_of_getElem? ha, List.mem_of_getElem? hb⟩
theorem nx_ex {row : List Int} {a : Int} (h : a ∈ row) : ∃ b, NxRow row a b := by
  obtain ⟨u, v, rfl⟩ := List.append_of_mem h
  cases hh : (v ++ u ++ [a]).head? with
  | none => simp at hh
  | some b => exact ⟨b, nx_split.mpr ⟨u, v, rfl, hh⟩⟩
theorem nx_pre {row : List Int} {b : Int} (h : b ∈ row) : ∃ a, NxRow row a b := by
  obtain ⟨j, hj, e⟩ := List.getElem_of_mem h
  have hp := prv_lt hj
  exact ⟨row[prv row.length j], j, hj, List.getElem?_eq_getElem hp, by rw [List.getElem?_eq_getElem hj, e]⟩
theorem nx_inj {row : List Int} (nd : row.Nodup) {a a' b : Int} (h : NxRow row a b) (h' : NxRow row a' b) : a = a' := by
  obtain ⟨j, hj, ha, hb⟩ := h
  obtain ⟨k, hk, ha', hb'⟩ := h'
  have := nd_at nd hb hb'
  subst this
  rw [ha] at ha'
  exact Option.some.inj ha'
structure RowsOk (rows : List (List Int)) (S : Int → Prop) (nx : Int → Int) : Prop where
  nd : rows.flatten.Nodup
  mem : ∀ x, x ∈ rows.flatten ↔ S x
  nx : ∀ row ∈ rows, ∀ a b, NxRow row a b → nx a = b
theorem flat_nd {rows : List (List Int)} (h : rows.flatten.Nodup) {row : List Int} (hr : row ∈ rows) : row.Nodup := by
  induction rows with
  | nil => cases hr
  | cons r rs ih =>
    rw [List.flatten_cons] at h
    rcases List.mem_cons.mp hr with rfl | hr
    · exact (List.nodup_append.mp h).1
    · exact ih (List.nodup_append.mp h).2.1 hr
theorem flat_one {rows : List (List Int)} (h : rows.flatten.Nodup) {r r' : List Int} (hr : r ∈ rows) (hr' : r' ∈ rows) {x : Int} (hx : x ∈ r) (hx' : x ∈ r') : r = r' := by
  induction rows with
  | nil => cases hr
  | cons q rs ih =>
    rw [List.flatten_cons] at h
    obtain ⟨_, n2, n3⟩ := List.nodup_append.mp h
    rcases List.mem_cons.mp hr with e | k <;> rcases List.mem_cons.mp hr' with e' | k'
    · rw [e, e']
    · subst e; exact absurd rfl (n3 x hx x (List.mem_flatten.mpr ⟨r', k', hx'⟩))
    · subst e'; exact absurd rfl (n3 x hx' x (List.mem_flatten.mpr ⟨r, k, hx⟩))
    · exact ih n2 k k'
section
variable {rows : List (List Int)} {S : Int → Prop} {nx : Int → Int} (R : RowsOk rows S nx)
include R
theorem RowsOk.into {a : Int} (h : S a) : S (nx a) := by
  obtain ⟨row, hr, ha⟩ := List.mem_flatten.mp ((R.mem a).mpr h)
  obtain ⟨b, hb⟩ := nx_ex ha
  rw [R.nx row hr a b hb]
  exact (R.mem b).mp (List.mem_flatten.mpr ⟨row, hr, (nx_mem hb).2⟩)
theorem RowsOk.inj {a a' : Int} (h : S a) (h' : S a') (e : nx a = nx a') : a = a' := by
  obtain ⟨row, hr, ha⟩ := List.mem_flatten.mp ((R.mem a).mpr h)
  obtain ⟨row', hr', ha'⟩ := List.mem_flatten.mp ((R.mem a').mpr h')
  obtain ⟨b, hb⟩ := nx_ex ha
  obtain ⟨b', hb'⟩ := nx_ex ha'
  rw [R.nx row hr a b hb, R.nx row' hr' a' b' hb'] at e
  subst e
  have := flat_one R.nd hr hr' (nx_mem hb).2 (nx_mem hb').2
  subst this
  exact nx_inj (flat_nd R.nd hr) hb hb'
theorem RowsOk.sur {b : Int} (h : S b) : ∃ a, S a ∧ nx a = b := by
  obtain ⟨row, hr, hb⟩ := List.mem_flatten.mp ((R.mem b).mpr h)
  obtain ⟨a, ha⟩ := nx_pre hb
  exact ⟨a, (R.mem a).mp (List.mem_flatten.mpr ⟨row, hr, (nx_mem ha).1⟩), R.nx row hr a b ha⟩
end
def rk (L : List Int) (x : Int) : Int := ((L.idxOf x : Nat) : Int)
def rkO (L : List Int) : Option Int → Option Int
  | none => none
  | some x => if x ∈ L then some (rk L x) else none
def clOn (L : List Int) (nx : Int → Int) : List Int := L.map fun a => rk L (nx a)
def clMs (L : List Int) (mt : Int → Option Int) : List (Option Int) := L.map fun a => rkO L (mt a)
theorem rk_get {L : List Int} {a : Int} (h : a ∈ L) : L[(rk L a).toNat]? = some a := by
  unfold rk; rw [Int.toNat_natCast]; exact ahd_get h
theorem rk_rng {L : List Int} {a : Int} (h : a ∈ L) : InR L.length (rk L a) := by
  have := ahd_rng h
  exact this
theorem rk_inj {L : List Int} {a b : Int} (ha : a ∈ L) (hb : b ∈ L) (e : rk L a = rk L b) : a = b := by
  have h1 := rk_get ha
  rw [e, rk_get hb] at h1
  exact (Option.some.inj h1).symm
theorem rk_at {L : List Int} (nd : L.Nodup) {i : Nat} {a : Int} (h : L[i]? = some a) : rk L a = (i : Int) := by
  have h1 := rk_get (List.mem_of_getElem? h)
  have := nd_at nd h1 h
  have h2 := (rk_rng (List.mem_of_getElem? h)).1
  omega
theorem close_skin {L : List Int} {nx : Int → Int} {mt : Int → Option Int} (nd : L.Nodup) (h1 : 1 ≤ L.length) (h2 : L.length ≤ 400) (into : ∀ a ∈ L, nx a ∈ L) (inj : ∀ a ∈ L, ∀ b ∈ L, nx a = nx b → a = b) (sur : ∀ b ∈ L, ∃ a ∈ L, nx a = b)
    (mm : ∀ a ∈ L, ∀ b ∈ L, mt a = some b → b ≠ a ∧ mt b = some a) : SkinOk (clOn L nx) (clMs L mt) := by
  have lo : (clOn L nx).length = L.length := by unfold clOn; simp
  have lm : (clMs L mt).length = L.length := by unfold clMs; simp
  have at' : ∀ i (h : i < L.length), (clOn L nx)[i]'(by rw [lo]; exact h) = rk L (nx L[i]) := fun i h => by unfold clOn; simp
  refine ⟨by rw [lo]; exact h1, by rw [lo]; exact h2, by rw [lo, lm], fun x hx => ?_, ?_, fun y h0 hy => ?_, fun h m e => ?_⟩
  · obtain ⟨a, ha, rfl⟩ := List.mem_map.mp hx
    rw [lo]; exact rk_rng (into a ha)
  · rw [List.nodup_iff_pairwise_ne, List.pairwise_iff_getElem]
    intro i j hi hj hij e
    rw [lo] at hi hj
    rw [at' i hi, at' j hj] at e
    have e1 := rk_inj (into _ (List.getElem_mem hi)) (into _ (List.getElem_mem hj)) e
    have e2 := inj _ (List.getElem_mem hi) _ (List.getElem_mem hj) e1
    have := (List.getElem_inj nd).mp e2
    omega
  · rw [lo] at hy
    have hi : y.toNat < L.length := by omega
    obtain ⟨a, ha, e⟩ := sur _ (List.getElem_mem hi)
    refine List.mem_map.mpr ⟨a, ha, ?_⟩
    show rk L (nx a) = y
    rw [e, rk_at nd (List.getElem?_eq_getElem hi)]; omega
  · rw [lo]
    unfold clMs at e ⊢
    rw [List.getElem?_map] at e
    obtain ⟨a, ha, e2⟩ := Option.map_eq_some_iff.mp e
    have hL := List.mem_of_getElem? ha
    have ra := rk_at nd ha
    cases hm : mt a with
    | none => rw [hm] at e2; cases e2
    | some b =>
      rw [hm] at e2
      unfold rkO at e2
      dsimp only at e2
      by_cases hb : b ∈ L
      · rw [if_pos hb] at e2
        have e3 : rk L b = m := Option.some.inj e2
        subst e3
        obtain ⟨q1, q2⟩ := mm a hL b hb hm
        have rb := rk_rng hb
        refine ⟨rb.1, rb.2, fun z => q1 (rk_inj hb hL (by rw [z, ra])), ?_⟩
        rw [List.getElem?_map, rk_get hb]
        show some (rkO L (mt b)) = _
        rw [q2]
        unfold rkO
        dsimp only
        rw [if_pos hL, ra]
      · rw [if_neg hb] at e2; cases e2
theorem RowsOk.skin {rows : List (List Int)} {S : Int → Prop} {nx : Int → Int} {mt : Int → Option Int} (R : RowsOk rows S nx) {L : List Int} (nd : L.Nodup) (hL : ∀ x, x ∈ L ↔ S x) (h1 : 1 ≤ L.length) (h2 : L.length ≤ 400)
    (mm : ∀ a, S a → ∀ b, S b → mt a = some b → b ≠ a ∧ mt b = some a) : SkinOk (clOn L nx) (clMs L mt) :=
  close_skin nd h1 h2 (fun a ha => (hL _).mpr (R.into ((hL a).mp ha))) (fun a ha b hb e => R.inj ((hL a).mp ha) ((hL b).mp hb) e)
    (fun b hb => by obtain ⟨a, ha, e⟩ := R.sur ((hL b).mp hb); exact ⟨a, (hL a).mpr ha, e⟩) fun a ha b hb e => mm a ((hL a).mp ha) b ((hL b).mp hb) e
theorem rngL_nd (n : Nat) : (rngL n).Nodup := (rngL_lt n).imp (fun h => by omega)
theorem trail_first {on : List Int} {h x : Int} {l : List Int} (t : Trail (onwF on) h x l) : (l.drop 1 ++ [h]).head? = some (lk on x) := by
  cases t with
  | last q =>
    rcases q with q | q
    · cases q
    · have : lk on x = h := Option.some.inj q
      simp [this]
  | step q _ t =>
    obtain ⟨r, rfl⟩ := t.head
    have := Option.some.inj q
    simp [← this]
theorem SkinOk.patS {on : List Int} {ms : List (Option Int)} (S : SkinOk on ms) {h a : Int} {u v : List Int} (g : InR on.length h) (e : patL on h = u ++ a :: v) : patL on a = a :: (v ++ u) := by
  have hx : (patL on h)[u.length]? = some a := by rw [e, List.getElem?_append_right (Nat.le_refl _)]; simp
  rw [S.patR g hx, e]
  unfold rot
  simp
theorem SkinOk.pat_nx {on : List Int} {ms : List (Option Int)} (S : SkinOk on ms) {h a b : Int} (g : InR on.length h) (n : NxRow (patL on h) a b) : lk on a = b := by
  obtain ⟨u, v, e, hb⟩ := nx_split.mp n
  have ga : InR on.length a := (S.pat g).2.2.1 a (by rw [e]; simp)
  have ea := S.patS g e
  have t := (S.pat ga).1
  rw [ea] at t
  have := trail_first t
  rw [List.drop_one, List.tail_cons, hb] at this
  exact (Option.some.inj this).symm
def patsL (on : List Int) : List (List Int) := onceF (patL on) [] (rngL on.length)
theorem pats_of {on : List Int} {row : List Int} (h : row ∈ patsL on) : ∃ x, InR on.length x ∧ row = patL on x := by
  obtain ⟨x, hx, e⟩ := onceF_mem _ _ row h
  exact ⟨x, rngL_mem.mp hx, e⟩
theorem SkinOk.rows {on : List Int} {ms : List (Option Int)} (S : SkinOk on ms) : RowsOk (patsL on) (InR on.length) (lk on) := by
  obtain ⟨h1, h2⟩ := once_all S.part_pat
  refine ⟨h1, fun x => by rw [← rngL_mem]; exact h2 x, fun row hr a b n => ?_⟩
  obtain ⟨x, g, rfl⟩ := pats_of hr
  exact S.pat_nx g n
end Hs
set_option linter.all false
set_option maxRecDepth 100000
set_option maxHeartbeats 1000000
namespace Hs
theorem RowsOk.more {rows : List (List Int)} {S : Int → Prop} {nx nx' : Int → Int} (R : RowsOk rows S nx) {row : List Int} (nd : row.Nodup) (hn : ∀ x ∈ row, ¬ S x) (h1 : ∀ x, S x → nx' x = nx x) (h2 : ∀ x b, NxRow row x b → nx' x = b) : RowsOk (rows ++ [row]) (fun x => S x ∨ x ∈ row) nx' := by
  have hf : (rows ++ [row]).flatten = rows.flatten ++ row := by simp
  refine ⟨?_, fun x => ?_, fun r hr x b n => ?_⟩
  · rw [hf]
    exact List.nodup_append.mpr ⟨R.nd, nd, fun a ha b hb e => hn b hb ((R.mem b).mp (e ▸ ha))⟩
  · rw [hf, List.mem_append, R.mem]
  · rcases List.mem_append.mp hr with q | q
    · rw [h1 x ((R.mem x).mp (List.mem_flatten.mpr ⟨r, q, (nx_mem n).1⟩))]
      exact R.nx r q x b n
    · rw [List.mem_singleton.mp q] at n
      exact h2 x b n
inductive Fol (on : List Int) (T : List Int) : Nat → Int → Int → Prop
  | here {x : Int} : x ∉ T → Fol on T 0 x x
  | step {k : Nat} {x y : Int} : x ∈ T → Fol on T k (lk on x) y → Fol on T (k + 1) x y
theorem Fol.out {on T : List Int} {k : Nat} {x y : Int} (h : Fol on T k x y) : y ∉ T := by
  induction h with
  | here n => exact n
  | step _ _ ih => exact ih
end Hs
set_option linter.all false
set_option maxRecDepth 100000
set_option maxHeartbeats 1000000
namespace Hs
theorem RowsOk.congr {rows : List (List Int)} {S S' : Int → Prop} {nx : Int → Int} (R : RowsOk rows S nx) (h : ∀ x, S x ↔ S' x) : RowsOk rows S' nx := ⟨R.nd, fun x => (R.mem x).trans (h x), R.nx⟩
theorem RowsOk.at {rows : List (List Int)} {S : Int → Prop} {nx : Int → Int} (R : RowsOk rows S nx) {a : Int} (ha : S a) : ∃ (i : Nat) (u v : List Int), rows[i]? = some (u ++ a :: v) := by
  obtain ⟨row, hr, hx⟩ := List.mem_flatten.mp ((R.mem a).mpr ha)
  obtain ⟨i, hi, e⟩ := List.getElem_of_mem hr
  obtain ⟨u, v, e2⟩ := List.append_of_mem hx
  exact ⟨i, u, v, by rw [List.getElem?_eq_getElem hi, e, e2]⟩
theorem RowsOk.all {rows : List (List Int)} {n : Nat} {nx : Int → Int} {mt : Int → Option Int} (R : RowsOk rows (InR n) nx) (h1 : 1 ≤ n) (h2 : n ≤ 400) (mm : ∀ a, InR n a → ∀ b, InR n b → mt a = some b → b ≠ a ∧ mt b = some a) : SkinOk (clOn (rngL n) nx) (clMs (rngL n) mt) :=
  R.skin (rngL_nd n) (fun x => rngL_mem) (by rw [rngL_len]; exact h1) (by rw [rngL_len]; exact h2) mm
theorem lkM_out {ms : List (Option Int)} {x : Int} (h : (ms.length : Int) ≤ x) : lkM ms x = none := by
  unfold lkM
  rw [List.getElem?_eq_none (by omega)]; rfl
theorem SkinOk.mtS {on : List Int} {ms : List (Option Int)} (S : SkinOk on ms) {a b : Int} (g : 0 ≤ a) (e : lkM ms a = some b) : InR on.length a ∧ InR on.length b ∧ lkM ms b = some a ∧ b ≠ a := by
  have ga : InR on.length a := ⟨g, by
    rcases Int.lt_or_le a on.length with h | h
    · exact h
    · rw [lkM_out (by rw [S.len]; exact h)] at e; cases e⟩
  obtain ⟨h1, h2, h3⟩ := S.mate ga e
  exact ⟨ga, h1, h2, h3⟩
theorem lk_setI {l : List Int} {j v x : Int} (h : InR l.length j) (hx : 0 ≤ x) : lk (l.set j.toNat v) x = if x = j then v else lk l x := by
  rw [lk_set (by omega)]
  have : x.toNat = j.toNat ↔ x = j := by omega
  simp only [this]
theorem SkinOk.mm {on : List Int} {ms : List (Option Int)} (S : SkinOk on ms) {a b : Int} (g : 0 ≤ a) (e : lkM ms a = some b) : b ≠ a ∧ lkM ms b = some a := ⟨(S.mtS g e).2.2.2, (S.mtS g e).2.2.1⟩
def mergeable (on : List Int) (ms : List (Option Int)) (h : Int) : Prop := lk on h ≠ h ∧ lkM ms h ≠ some (lk on h) ∧ (match lkM ms (lk on h) with
  | none => lkM ms h = none
  | some f => lkM ms h = some (lk on f))
instance (on : List Int) (ms : List (Option Int)) (h : Int) : Decidable (mergeable on ms h) := by
  unfold mergeable
  cases lkM ms (lk on h) <;> exact inferInstance
end Hs
set_option linter.all false
set_option maxRecDepth 100000
set_option maxHeartbeats 1000000
set_option linter.all false
set_option maxRecDepth 100000
set_option maxHeartbeats 1000000
namespace Hs
section
variable {on : List Int} {ms : List (Option Int)} (S : SkinOk on ms)
include S
end
end Hs
set_option linter.all false
set_option maxRecDepth 100000
set_option maxHeartbeats 1000000
namespace Hs
theorem nd_sub : ∀ {a b : List Int}, a.Nodup → (∀ x ∈ a, x ∈ b) → a.length ≤ b.length
  | [], _, _, _ => Nat.zero_le _
  | x :: a, b, nd, h => by
    obtain ⟨n1, n2⟩ := List.nodup_cons.mp nd
    have hx := h x List.mem_cons_self
    have := nd_sub (b := b.erase x) n2 fun y hy => (List.mem_erase_of_ne (show y ≠ x from fun e => n1 (by rw [← e]; exact hy))).mpr (h y (List.mem_cons_of_mem _ hy))
    rw [List.length_erase_of_mem hx] at this
    have := List.length_pos_of_mem hx
    simp
    omega
def rimmed (on : List Int) (ms : List (Option Int)) (h : Int) : Prop := lkM ms (fstK on ms h) = none
instance (on : List Int) (ms : List (Option Int)) (h : Int) : Decidable (rimmed on ms h) := by unfold rimmed; exact inferInstance
inductive Rch (on : List Int) (ms : List (Option Int)) (h : Int) : Int → Prop
  | self : Rch on ms h h
  | next {x : Int} : Rch on ms h x → Rch on ms h (lk on x)
  | mate {x m : Int} : Rch on ms h x → lkM ms x = some m → Rch on ms h m
theorem Rch.rng {on : List Int} {ms : List (Option Int)} (S : SkinOk on ms) {h x : Int} (g : InR on.length h) (r : Rch on ms h x) : InR on.length x := by
  induction r with
  | self => exact g
  | next _ ih => exact S.lkR ih
  | mate _ e ih => exact (S.mate ih e).1
def drawRims (on : List Int) (ms : List (Option Int)) (h : Int) : Prop := lkM ms h ≠ none ∧ rimmed on ms h ∧ rimmed on ms (lk on h)
instance (on : List Int) (ms : List (Option Int)) (h : Int) : Decidable (drawRims on ms h) := by unfold drawRims; exact inferInstance
def drawLast (on : List Int) (ms : List (Option Int)) (h : Int) : Prop := lkM ms h = some (lk on h) ∧ lk on (lk on h) = h
instance (on : List Int) (ms : List (Option Int)) (h : Int) : Decidable (drawLast on ms h) := by unfold drawLast; exact inferInstance
section
variable {on : List Int} {ms : List (Option Int)} (S : SkinOk on ms)
include S
end
end Hs
set_option linter.all false
set_option maxRecDepth 100000
set_option maxHeartbeats 1000000
namespace Hs
theorem Rch.trans {on : List Int} {ms : List (Option Int)} {a b c : Int} (h : Rch on ms a b) (k : Rch on ms b c) : Rch on ms a c := by
  induction k with
  | self => exact h
  | next _ ih => exact .next ih
  | mate _ e ih => exact .mate ih e
theorem trail_rch {on : List Int} {ms : List (Option Int)} {h0 x : Int} {l : List Int} (t : Trail (onwF on) h0 x l) : ∀ z ∈ l, Rch on ms x z := by
  induction t with
  | last _ => intro z hz; rw [List.mem_singleton.mp hz]; exact .self
  | @step x y l hy _ _ ih =>
    intro z hz
    rcases List.mem_cons.mp hz with rfl | hz
    · exact .self
    · have e : lk on x = y := Option.some.inj hy
      have : Rch on ms x y := by rw [← e]; exact .next .self
      exact this.trans (ih z hz)
section
variable {on : List Int} {ms : List (Option Int)} (S : SkinOk on ms)
include S
theorem SkinOk.onBack {h : Int} (g : InR on.length h) : Rch on ms (lk on h) h := by
  have R := S.rows
  obtain ⟨row, hr, hx⟩ := List.mem_flatten.mp ((R.mem h).mpr g)
  obtain ⟨b, hb⟩ := nx_ex hx
  have eb := R.nx row hr h b hb
  obtain ⟨y, gy, rfl⟩ := pats_of hr
  obtain ⟨u, v, e⟩ := List.append_of_mem (nx_mem hb).2
  have e2 := S.patS gy e
  have gb : InR on.length b := (S.pat gy).2.2.1 b (nx_mem hb).2
  rw [eb]
  refine trail_rch (S.pat gb).1 h ?_
  rw [e2]
  rw [e] at hx
  simp at hx ⊢
  rcases hx with z | z | z
  · exact .inr (.inr z)
  · exact .inl z
  · exact .inr (.inl z)
theorem Rch.symm {a b : Int} (g : InR on.length a) (r : Rch on ms a b) : Rch on ms b a := by
  induction r with
  | self => exact .self
  | next r ih => exact (S.onBack (r.rng S g)).trans ih
  | mate r e ih => exact (Rch.mate .self (S.mate (r.rng S g) e).2.1).trans ih
end
open Classical in
noncomputable def partL (on : List Int) (ms : List (Option Int)) (h : Int) : List Int := (rngL on.length).filter fun x => decide (Rch on ms h x)
noncomputable def repP (on : List Int) (ms : List (Option Int)) (h : Int) : Int := (partL on ms h).headD h
noncomputable def partsL (on : List Int) (ms : List (Option Int)) : List (List Int) := onceF (partL on ms) [] (rngL on.length)
theorem pw_ext : ∀ {a b : List Int}, a.Pairwise (· < ·) → b.Pairwise (· < ·) → (∀ x, x ∈ a ↔ x ∈ b) → a = b
  | [], [], _, _, _ => rfl
  | [], y :: b, _, _, h => by have := (h y).mpr List.mem_cons_self; cases this
  | x :: a, [], _, _, h => by have := (h x).mp List.mem_cons_self; cases this
  | x :: a, y :: b, p, q, h => by
    obtain ⟨p1, p2⟩ := List.pairwise_cons.mp p
    obtain ⟨q1, q2⟩ := List.pairwise_cons.mp q
    have e : x = y := by
      have h1 := (h x).mp List.mem_cons_self
      have h2 := (h y).mpr List.mem_cons_self
      rcases List.mem_cons.mp h1 with z | z
      · exact z
      · rcases List.mem_cons.mp h2 with w | w
        · exact w.symm
        · have := q1 x z; have := p1 y w; omega
    subst e
    rw [pw_ext p2 q2 fun z => ?_]
    have hz := h z
    constructor
    · intro m
      rcases List.mem_cons.mp (hz.mp (List.mem_cons_of_mem _ m)) with w | w
      · have := p1 z m; omega
      · exact w
    · intro m
      rcases List.mem_cons.mp (hz.mpr (List.mem_cons_of_mem _ m)) with w | w
      · have := q1 z m; omega
      · exact w
section
variable {on : List Int} {ms : List (Option Int)} (S : SkinOk on ms)
theorem partL_mem {h x : Int} : x ∈ partL on ms h ↔ InR on.length x ∧ Rch on ms h x := by
  unfold partL
  rw [List.mem_filter, rngL_mem]; simp
theorem partL_lt (h : Int) : (partL on ms h).Pairwise (· < ·) := (rngL_lt on.length).sublist List.filter_sublist
include S
theorem SkinOk.rep {h : Int} (g : InR on.length h) : InR on.length (repP on ms h) ∧ Rch on ms h (repP on ms h) ∧ ∀ x, InR on.length x → Rch on ms h x → repP on ms h ≤ x := by
  have hh : h ∈ partL on ms h := partL_mem.mpr ⟨g, .self⟩
  have p := partL_lt (on := on) (ms := ms) h
  have m : ∀ x, x ∈ partL on ms h ↔ InR on.length x ∧ Rch on ms h x := fun x => partL_mem
  unfold repP
  generalize partL on ms h = l at hh p m
  cases l with
  | nil => cases hh
  | cons a r =>
    obtain ⟨p1, _⟩ := List.pairwise_cons.mp p
    have ha := (m a).mp List.mem_cons_self
    refine ⟨ha.1, ha.2, fun x gx rx => ?_⟩
    rcases List.mem_cons.mp ((m x).mpr ⟨gx, rx⟩) with z | z
    · show a ≤ x; omega
    · have := p1 x z
      show a ≤ x; omega
theorem SkinOk.rep_le {h : Int} (g : InR on.length h) : repP on ms h ≤ h := (S.rep g).2.2 h g .self
theorem SkinOk.rep_one {a b : Int} (g : InR on.length a) (gb : InR on.length b) (r : Rch on ms a b) : repP on ms a = repP on ms b := by
  have h1 := S.rep g
  have h2 := S.rep gb
  have e1 := h1.2.2 _ h2.1 (r.trans h2.2.1)
  have e2 := h2.2.2 _ h1.1 ((r.symm S g).trans h1.2.1)
  omega
theorem SkinOk.rep_iff {a b : Int} (g : InR on.length a) (gb : InR on.length b) : repP on ms a = repP on ms b ↔ Rch on ms a b := by
  refine ⟨fun e => ?_, S.rep_one g gb⟩
  have h1 := (S.rep g).2.1
  have h2 := (S.rep gb).2.1
  rw [e] at h1
  exact h1.trans (h2.symm S gb)
theorem SkinOk.rep_rep {h : Int} (g : InR on.length h) : repP on ms (repP on ms h) = repP on ms h := (S.rep_one g (S.rep g).1 (S.rep g).2.1).symm
end
theorem once_rep {g : Int → List Int} {rep : Int → Int} {R : Int → Prop} (idem : ∀ x, R x → R (rep x) ∧ rep (rep x) = rep x ∧ rep x ≤ x) (hg : ∀ h, R h → rep h = h → ∀ x, x ∈ g h ↔ R x ∧ rep x = h) :
    ∀ (hs met : List Int), hs.Pairwise (· < ·) → (∀ h ∈ hs, R h) → (∀ h ∈ hs, h ∈ met ↔ rep h ∉ hs) → onceF g met hs = (hs.filter fun h => decide (rep h = h)).map g
  | [], _, _, _, _ => rfl
  | h :: t, met, pw, hr, hm => by
    obtain ⟨p1, p2⟩ := List.pairwise_cons.mp pw
    have rh := hr h List.mem_cons_self
    have rt : ∀ y ∈ t, R y := fun y hy => hr y (List.mem_cons_of_mem _ hy)
    unfold onceF
    by_cases c : h ∈ met
    · rw [if_pos c]
      have nr : rep h ∉ h :: t := (hm h List.mem_cons_self).mp c
      have ne : rep h ≠ h := fun z => nr (by rw [z]; exact List.mem_cons_self)
      rw [List.filter_cons_of_neg (by simpa using ne)]
      refine once_rep idem hg t met p2 rt fun y hy => ?_
      rw [hm y (List.mem_cons_of_mem _ hy)]
      refine ⟨fun z w => z (List.mem_cons_of_mem _ w), fun z w => ?_⟩
      rcases List.mem_cons.mp w with w | w
      · have := (idem y (rt y hy)).2.1
        rw [w] at this
        exact ne this
      · exact z w
    · rw [if_neg c]
      have ir : rep h ∈ h :: t := Classical.byContradiction fun z => c ((hm h List.mem_cons_self).mpr z)
      have er : rep h = h := by
        rcases List.mem_cons.mp ir with z | z
        · exact z
        · have := p1 _ z; have := (idem h rh).2.2; omega
      rw [List.filter_cons_of_pos (by simpa using er), List.map_cons]
      congr 1
      refine once_rep idem hg t _ p2 rt fun y hy => ?_
      rw [List.mem_append, hm y (List.mem_cons_of_mem _ hy), hg h rh er]
      constructor
      · rintro (z | z) w
        · exact z (List.mem_cons_of_mem _ w)
        · rw [z.2] at w
          have := p1 h w; omega
      · intro z
        by_cases w : rep y = h
        · exact .inr ⟨rt y hy, w⟩
        · refine .inl fun q => ?_
          rcases List.mem_cons.mp q with q | q
          · exact w q
          · exact z q
theorem SkinOk.parts_map {on : List Int} {ms : List (Option Int)} (S : SkinOk on ms) : partsL on ms = ((rngL on.length).filter fun h => decide (repP on ms h = h)).map (partL on ms) := by
  unfold partsL
  refine once_rep (R := InR on.length) (rep := repP on ms) (fun x g => ⟨(S.rep g).1, S.rep_rep g, S.rep_le g⟩) (fun h g e x => ?_) _ _ (rngL_lt _) (fun h hh => rngL_mem.mp hh) fun h hh => ?_
  · rw [partL_mem]
    refine ⟨fun z => ⟨z.1, by rw [← S.rep_one g z.1 z.2, e]⟩, fun z => ⟨z.1, (S.rep_iff g z.1).mp (by rw [e, z.2])⟩⟩
  · have g := rngL_mem.mp hh
    exact ⟨fun z => (by cases z), fun z => absurd (rngL_mem.mpr (S.rep g).1) z⟩
theorem rngL_snoc (n : Nat) : rngL (n + 1) = rngL n ++ [(n : Int)] := by unfold rngL; rw [List.range_succ, List.map_append]; rfl
structure Nm (on : List Int) (ms : List (Option Int)) (ns : List Int) : Prop where
  len : ns.length = on.length
  re : ∀ h, InR on.length h → Rch on ms h (lk ns h) ∧ lk ns h ≤ h
def sumN (ns : List Int) : Nat := (ns.map Int.toNat).sum
theorem sum_set : ∀ {ns : List Int} {j : Nat} {v : Int} (h : j < ns.length), sumN (ns.set j v) + (ns[j]).toNat = sumN ns + v.toNat
  | a :: r, 0, v, _ => by unfold sumN; simp; omega
  | a :: r, j + 1, v, h => by
    have := sum_set (ns := r) (j := j) (v := v) (by simpa using h)
    unfold sumN at this ⊢
    simp at this ⊢
    omega
section
variable {on : List Int} {ms : List (Option Int)} (S : SkinOk on ms)
include S
theorem Nm.start : Nm on ms (rngL on.length) := ⟨rngL_len _, fun h g => by
  have : lk (rngL on.length) h = h := by
    have e := rngL_get (n := on.length) (i := h.toNat) (by unfold InR at g; omega)
    unfold lk
    rw [List.getD_eq_getElem?_getD, e]
    unfold InR at g
    show ((h.toNat : Nat) : Int) = h
    omega
  rw [this]; exact ⟨.self, by omega⟩⟩
theorem Nm.rng {ns : List Int} (N : Nm on ms ns) {h : Int} (g : InR on.length h) : InR on.length (lk ns h) := (N.re h g).1.rng S g
theorem Nm.turn {ns : List Int} (N : Nm on ms ns) {h t v : Int} (g : InR on.length h) (r : Rch on ms h t) (ne : lk ns t ≠ lk ns h) (ev : v = if lk ns h < lk ns t then lk ns h else lk ns t) : Nm on ms ((ns.set t.toNat v).set h.toNat v) ∧ sumN ((ns.set t.toNat v).set h.toNat v) < sumN ns := by
  have gt := r.rng S g
  have rt := r.symm S g
  have nth : t ≠ h := fun z => ne (by rw [z])
  have vh : Rch on ms h v := by
    rw [ev]; split
    · exact (N.re h g).1
    · exact r.trans (N.re t gt).1
  have gv : InR on.length v := vh.rng S g
  have ll : InR ns.length h ∧ InR ns.length t := by rw [N.len]; exact ⟨g, gt⟩
  have lh := (N.re h g).2
  have lt := (N.re t gt).2
  have hv1 : v ≤ lk ns h := by rw [ev]; split <;> omega
  have hv2 : v ≤ lk ns t := by rw [ev]; split <;> omega
  refine ⟨⟨by simp [N.len], fun x gx => ?_⟩, ?_⟩
  · rw [lk_setI (by rw [List.length_set]; exact ll.1) gx.1]
    by_cases e : x = h
    · rw [if_pos e, e]; exact ⟨vh, by omega⟩
    · rw [if_neg e, lk_setI ll.2 gx.1]
      by_cases e2 : x = t
      · rw [if_pos e2, e2]; exact ⟨rt.trans vh, by omega⟩
      · rw [if_neg e2]; exact N.re x gx
  · unfold InR at ll g gt gv
    have h1 := sum_set (ns := ns) (j := t.toNat) (v := v) (by omega)
    have h2 := sum_set (ns := ns.set t.toNat v) (j := h.toNat) (v := v) (by simp; omega)
    rw [List.getElem_set_ne (by omega)] at h2
    have e1 : ns[t.toNat]'(by omega) = lk ns t := by
      have := lk_get (l := ns) (x := t) (by omega)
      rw [List.getElem?_eq_getElem (by omega)] at this; exact Option.some.inj this
    have e2 : ns[h.toNat]'(by omega) = lk ns h := by
      have := lk_get (l := ns) (x := h) (by omega)
      rw [List.getElem?_eq_getElem (by omega)] at this; exact Option.some.inj this
    rw [e1] at h1
    rw [e2] at h2
    have g1 := N.rng S g
    have g2 := N.rng S (h := t) gt
    unfold InR at g1 g2
    have : v < lk ns h ∨ v < lk ns t := by rw [ev]; split <;> omega
    omega
theorem Nm.last {ns : List Int} (N : Nm on ms ns) (h1 : ∀ h, InR on.length h → lk ns (lk on h) = lk ns h ∧ ∀ m, lkM ms h = some m → lk ns m = lk ns h) {h : Int} (g : InR on.length h) : lk ns h = repP on ms h := by
  have cst : ∀ {x}, Rch on ms h x → lk ns x = lk ns h := fun {x} r => by
    induction r with
    | self => rfl
    | next r ih => rw [(h1 _ (r.rng S g)).1]; exact ih
    | mate r e ih => rw [(h1 _ (r.rng S g)).2 _ e]; exact ih
  have hr := S.rep g
  have e1 := cst hr.2.1
  have e2 := (N.re _ hr.1).2
  have e3 := hr.2.2 _ (N.rng S g) (N.re h g).1
  omega
end
end Hs
set_option Elab.async false
set_option linter.all false
set_option maxRecDepth 100000
set_option maxHeartbeats 1000000
namespace PySem
open PySem.Spec PyProof.Rows
section
variable {prog : Program} {w : World} {A : Around} {E : Value → Shared → Prop} {s : Shared}
structure SetAt (h : Heap) (a : Addr) (es : Array (Int × Value)) (ep : Nat) (t : SetTable) : Prop where
  ex : ∃ o, h.get? a = some o ∧ o.ExactSet ∧ o.data = .set es ep t
  fits : t.fits es.size = true
theorem SetAt.at {h h' : Heap} {a : Addr} {es : Array (Int × Value)} {ep : Nat} {t : SetTable} (x : SetAt h a es ep t) (e : ∀ o, h.get? a = some o → h'.get? a = some o) : SetAt h' a es ep t :=
  let ⟨⟨o, ho, r⟩, f⟩ := x; ⟨⟨o, e o ho, r⟩, f⟩
theorem SetAt.typeIs {a : Addr} {es : Array (Int × Value)} {ep : Nat} {t : SetTable} (x : SetAt s.heap a es ep t) : s.TypeIs (.ref a) "set" := let ⟨⟨o, ho, hc, _⟩, _⟩ := x; ⟨o, ho, hc.1⟩
def ItAt (h : Heap) (I : Addr) (vs : Array Value) : Prop := ∃ o, h.get? I = some o ∧ o.cls = .type "set_iterator" ∧ o.data = .fields vs
theorem ItAt.typeIs {I : Addr} {vs : Array Value} (x : ItAt s.heap I vs) : s.TypeIs (.ref I) "set_iterator" := let ⟨o, ho, hc, _⟩ := x; ⟨o, ho, hc⟩
theorem ItAt.at {h h' : Heap} {I : Addr} {vs : Array Value} (x : ItAt h I vs) (e : ∀ o, h.get? I = some o → h'.get? I = some o) : ItAt h' I vs := let ⟨o, ho, r⟩ := x; ⟨o, e o ho, r⟩
theorem ItAt.set {h : Heap} {I : Addr} {vs : Array Value} (x : ItAt h I vs) (i : Nat) (v : Value) : ItAt (h.update I (Obj.mapFields (·.setIfInBounds i v))) I (vs.setIfInBounds i v) := by
  obtain ⟨o, ho, hc, hd⟩ := x
  exact ⟨_, Heap.get?_update_self _ ho (Obj.isFreed_of_fields (Obj.data_mapFields hd _)), (Obj.cls_mapFields ..).trans hc, Obj.data_mapFields hd _⟩
end
end PySem
set_option Elab.async false
set_option linter.all false
set_option maxRecDepth 100000
set_option maxHeartbeats 1000000
namespace PySem
open PySem.Spec PyProof.Rows
section
variable {prog : Program} {w : World} {A : Around} {E : Value → Shared → Prop} {s : Shared}
end
end PySem
set_option Elab.async false
set_option linter.all false
set_option maxRecDepth 100000
set_option maxHeartbeats 1000000
namespace PySem
open PySem.Spec PyProof.Rows
section
variable {prog : Program} {w : World} {A : Around} {E : Value → Shared → Prop} {s : Shared}
def PlAt (h : Heap) (T : Addr) (items : Array Value) : Prop := ∃ (o : Obj) (n : Nat), h.get? T = some o ∧ o.data = .seq items n
theorem PlAt.at {h h' : Heap} {T : Addr} {items : Array Value} (x : PlAt h T items) (e : ∀ o, h.get? T = some o → h'.get? T = some o) : PlAt h' T items := let ⟨o, n, ho, r⟩ := x; ⟨o, n, e o ho, r⟩
end
end PySem
set_option Elab.async false
set_option linter.all false
set_option maxRecDepth 100000
set_option maxHeartbeats 1000000
namespace L2
open PySem PySem.Spec PyProof.Rows
section
variable {X : Cx}
end
section
variable {X : Cx} {pins : List (Addr × Obj)} {σ : St} {H : Hp} {s : Shared} {a b : Addr} {kvs more : List (Key × V)} {A : Around} {E : Value → Shared → Prop}
end
section
variable {X : Cx} {o e f : Expr} {apos cpos : Pos} {td ty tx : TE}
end
end L2
set_option Elab.async false
set_option linter.all false
set_option maxRecDepth 100000
set_option maxHeartbeats 1000000
namespace L2
open PySem PySem.Spec PyProof.Rows
end L2
namespace Hs
open PySem PySem.Spec PyProof.Rows L2
end Hs
set_option Elab.async false
set_option linter.all false
set_option maxRecDepth 100000
set_option maxHeartbeats 1000000
namespace PySem
open PySem.Spec PyProof.Rows
section
variable {prog : Program} {w : World} {A : Around} {E : Value → Shared → Prop} {s : Shared}
end
end PySem
set_option Elab.async false
set_option linter.all false
set_option maxRecDepth 100000
set_option maxHeartbeats 1000000
namespace PySem
open PySem.Spec PyProof.Rows
section
variable {prog : Program} {w : World} {A : Around} {E : Value → Shared → Prop} {s : Shared}
end
end PySem
namespace L2
open PySem PySem.Spec PyProof.Rows
theorem Inv.drawn {X : Cx} {pins : List (Addr × Obj)} {σ : St} {H : Hp} {s : Shared} (I : Inv X pins σ H s) (d : Drawn) : Inv X pins σ H { s with drawn := d } := ⟨I.ok, I.os, I.bare, I.base, I.loc, I.cell, I.free, I.freeC, I.pin, I.hok, I.len⟩
section
variable {X : Cx}
end
end L2
set_option Elab.async false
set_option linter.all false
set_option maxRecDepth 100000
set_option maxHeartbeats 4000000
namespace Hs
open PySem L2
section
variable {P : Program} {w : World} {K : PySem.W.Frag} {mg : Str → Option Value} {base : Heap} {f : Addr} {fd : FuncData} {C : CsA} {S fH : Addr} {tM : Tok}
theorem scReach : FnScope ["skin", "half", "reached", "met", "at", "onward", "mates", "other"] ["skin", "half"] (defScope s_reached_from) := ⟨rfl, rfl, rfl, by decide +kernel, rfl, by decide +kernel, by decide +kernel⟩
def spReach : Sp := fun vs H Q _ => ∃ (p : Addr) (on : List Int) (ms : List (Option Int)) (half : Int), vs = [.ref p, .int half] ∧ SkAt H p on ms ∧ InR on.length half ∧
  ∀ (lr : Addr) (xs : List Int) H', Same H H' → H lr = none → H' lr = some (.lst (xs.map V.int)) → xs.Nodup → (∀ x, x ∈ xs ↔ Rch on ms half x) → Q (.ref lr) H'
structure Rchd (on : List Int) (ms : List (Option Int)) (half : Int) (n : Nat) (xs : List Int) : Prop where
  nd : xs.Nodup
  hf : half ∈ xs
  re : ∀ x ∈ xs, Rch on ms half x
  nx : ∀ (j : Nat) x, j < n → xs[j]? = some x → lk on x ∈ xs ∧ ∀ m, lkM ms x = some m → m ∈ xs
theorem Rchd.rng {on : List Int} {ms : List (Option Int)} {half : Int} {n : Nat} {xs : List Int} (S : SkinOk on ms) (g : InR on.length half) (R : Rchd on ms half n xs) : xs.length ≤ on.length := nd_len on.length xs R.nd fun z hz => (R.re z hz).rng S g
theorem Rchd.all {on : List Int} {ms : List (Option Int)} {half : Int} {xs : List Int} (R : Rchd on ms half xs.length xs) (x : Int) : x ∈ xs ↔ Rch on ms half x := by
  refine ⟨R.re x, fun r => ?_⟩
  have cl : ∀ y ∈ xs, lk on y ∈ xs ∧ ∀ m, lkM ms y = some m → m ∈ xs := fun y hy => by
    obtain ⟨j, hj⟩ := List.getElem?_of_mem hy
    exact R.nx j y (List.getElem?_eq_some_iff.mp hj).1 hj
  induction r with
  | self => exact R.hf
  | next _ ih => exact (cl _ ih).1
  | mate _ e ih => exact (cl _ ih).2 _ e
theorem Rchd.more {on : List Int} {ms : List (Option Int)} {half y : Int} {n : Nat} {xs : List Int} (R : Rchd on ms half n xs) (r : Rch on ms half y) (ny : y ∉ xs) (hn : n ≤ xs.length) : Rchd on ms half n (xs ++ [y]) := by
  refine ⟨List.nodup_append.mpr ⟨R.nd, by simp, fun a ha b hb e => ny (by rw [← List.mem_singleton.mp hb, ← e]; exact ha)⟩, List.mem_append_left _ R.hf, fun x hx => ?_, fun j x hj hx => ?_⟩
  · rcases List.mem_append.mp hx with z | z
    · exact R.re x z
    · rw [List.mem_singleton.mp z]; exact r
  · rw [List.getElem?_append_left (by omega)] at hx
    have := R.nx j x hj hx
    exact ⟨List.mem_append_left _ this.1, fun m e => List.mem_append_left _ (this.2 m e)⟩
theorem snoc_set (xs : List Int) (y : Int) : (fun k => decide (k ∈ xs) || decide (k = y)) = fun k => decide (k ∈ xs ++ [y]) := by
  funext k
  rw [Bool.eq_iff_iff]; simp
theorem ok_reached (B : Bi mg) (F : Fun K "reached_from" "reached_from" s_reached_from f fd) : FnOk P w K mg base CX0 1 f fd ["skin", "half"] spReach := by
  refine F.okC scReach (fun vs H Q E h => ?_) (fun cdv A outer s H vs Q E hcd hr h => ?_)
  · obtain ⟨p, on, ms, half, rfl, _⟩ := h; rfl
  obtain ⟨p, on, ms, half, rfl, SA, g, q⟩ := h
  obtain ⟨sk, po, pm, h1, h2, h3⟩ := id SA
  have hle := sk.le
  refine ⟨_, (pss_cons (ps_asg (pv 0) (pg_tup rfl (pgs_cons (pg_name (i := 5) scReach.nd rfl (Or.inl rfl)) (pgs_cons (pg_name (i := 6) scReach.nd rfl (Or.inl rfl)) pgs_nil))))
   (pss_cons (ps_set (i := 2) scReach.nd rfl (Or.inl rfl) (pe_lst (pa_cons (pv 1) pa_nil)))
   (pss_cons (ps_set (i := 3) scReach.nd rfl (Or.inl rfl) (pe_set1 (kds_of_code hcd) rfl rfl (pv 1)))
   (pss_cons (ps_set (i := 4) scReach.nd rfl (Or.inl rfl) pe_int)
   (pss_cons (ps_while PassesOwn.never (pt_cmpR op_lt (pv 4) (pe_callB call_len_seq rfl B.len_ bt_len (pa_cons (pv 2) pa_nil)) (nomark _))
   (pss_cons (ps_for PassesOwn.never rfl (pi_tup (pe_tup (pa_cons (pe_ix ix_tup (pv 5) (pe_ix ix_list (pv 2) (pv 4) (fun _ _ => rfl)) (fun _ _ => rfl)) (pa_cons (pe_ix ix_tup (pv 6) (pe_ix ix_list (pv 2) (pv 4) (fun _ _ => rfl)) (fun _ _ => rfl)) pa_nil)))) (pg_name (i := 7) scReach.nd rfl (Or.inl rfl))
   (pss_one (ps_if (PW.pt (pw_and (pt_cmpR op_notN (pv 7) pe_non (nomark _)) (pw_and1 (pt_cmpR op_notIn_set (pv 7) (pv 3) rfl))))
   (pss_cons (ps_expr (pe_bm PySem.F.plainAttrs_set PySem.F.slot_set_add PySem.F.type_set_add mt_setadd (pv 3) (pa_cons (pv 7) pa_nil)))
   (pss_one (ps_expr (pe_bm PySem.F.plainAttrs_list PySem.F.slot_list_append PySem.F.type_list_append mt_append (pv 2) (pa_cons (pv 7) pa_nil)))))
   pss_nil)))
   (pss_one (ps_aug (i := 4) scReach.nd rfl (Or.inl rfl) pe_int ip_add))))
   (pss_one (ps_ret (pv 2)))))))), ?_⟩
  refine ⟨_, rfl, p, _, rfl, SqT.of h1, rfl, _, _, rfl, _, _, rfl, rfl, ?_⟩
  refine ⟨_, rfl, (by show 1 ≤ sizeLine; decide), fun lr hlr => ?_⟩
  intro lm hlm
  refine ⟨_, rfl, half, rfl, upd_same, ?_⟩
  have nrm : lr ≠ lm := ne_of_none upd_same hlm
  have s0 := same_set ((same_put hlr (.lst [V.int half])).trans (same_put hlm (.set (fun _ => false) 0))) (((same_put hlr (.lst [V.int half]))).free hlm) (o := .set (fun k => decide (k = half)) 1)
  have e0 : upd (upd (upd H lr (.lst [V.int half])) lm (.set (fun _ => false) 0)) lm (.set (fun k => decide (k = half)) 1) lr = some (.lst ([half].map V.int)) := by rw [upd_ne nrm, upd_ne nrm, upd_same]; rfl
  have m0 : upd (upd (upd H lr (.lst [V.int half])) lm (.set (fun _ => false) 0)) lm (.set (fun k => decide (k = half)) 1) lm = some (.set (fun k => decide (k ∈ [half])) [half].length) := by rw [upd_same]; simp
  have flm : H lm = none := (same_put hlr (.lst [V.int half])).free hlm
  generalize upd (upd (upd H lr (.lst [V.int half])) lm (.set (fun _ => false) 0)) lm (.set (fun k => decide (k = half)) 1) = H0 at s0 e0 m0 ⊢
  refine ⟨fun m σ H' => ∃ (xs : List Int) (at_ : Nat) (v7 : Option V), m = on.length - at_ ∧ at_ ≤ xs.length ∧ σ = [some (.ref p), some (.int half), some (.ref lr), some (.ref lm), some (.int (at_ : Nat)), some (.ref po), some (.ref pm), v7] ∧ Same H H' ∧ H' lr = some (.lst (xs.map V.int)) ∧ H' lm = some (.set (fun k => decide (k ∈ xs)) xs.length) ∧ Rchd on ms half at_ xs,
    ⟨_, [half], 0, _, rfl, Nat.zero_le _, rfl, s0, e0, m0, by simp, by simp, fun x hx => by rw [List.mem_singleton.mp hx]; exact .self, fun j x hj => absurd hj (Nat.not_lt_zero _)⟩, ?_⟩
  rintro m σ H' ⟨xs, at_, v7, rfl, hat, rfl, s1, e1, m1, R⟩
  have hxl := R.rng sk g
  refine ⟨_, rfl, _, rfl, lr, _, rfl, .inl (SqL.of e1), _, _, rfl, rfl, _, rfl, ite2 (fun c => ?_) (fun c => ?_)⟩
  · have c : at_ < xs.length := by
      have := of_decide_eq_true c
      rw [List.length_map] at this; omega
    have ex : xs[at_]? = some xs[at_] := List.getElem?_eq_getElem c
    have hx : xs[at_] ∈ xs := List.getElem_mem c
    have rx := R.re _ hx
    have gx := rx.rng sk g
    generalize xs[at_] = x at ex hx rx gx
    have exV : atI (xs.map V.int) (at_ : Nat) = some (.int x) := atI_nat (by rw [List.getElem?_map, ex]; rfl)
    refine ⟨fun σ' H2 => ∃ (ys : List Int) (v7 : Option V), σ' = [some (.ref p), some (.int half), some (.ref lr), some (.ref lm), some (.int ((at_ + 1 : Nat) : Int)), some (.ref po), some (.ref pm), v7] ∧ at_ < ys.length ∧ Same H H2 ∧ H2 lr = some (.lst (ys.map V.int)) ∧ H2 lm = some (.set (fun k => decide (k ∈ ys)) ys.length) ∧ Rchd on ms half (at_ + 1) ys, ?_, ?_⟩
    · rintro σ' H2 ⟨ys, v, rfl, h4, h5, h6, h7, h8⟩
      exact ⟨on.length - (at_ + 1), by omega, ys, at_ + 1, v, rfl, by omega, rfl, h5, h6, h7, h8⟩
    refine ⟨_, rfl, _, rfl, _, rfl, lr, _, _, _, rfl, rfl, SqL.of e1, exV, po, _, _, _, rfl, rfl, SqT.of (s1 _ _ h2), at_lk gx.1 gx.2, ?_⟩
    refine ⟨_, rfl, _, rfl, _, rfl, lr, _, _, _, rfl, rfl, SqL.of e1, exV, pm, _, _, _, rfl, rfl, SqT.of (s1 _ _ h3), at_lkM gx.1 (by rw [sk.len]; exact gx.2), ?_⟩
    refine ⟨(by show 2 ≤ sizeLine; decide), fun tp htp => ?_⟩
    have s2 := s1.trans (same_put htp (.tup [V.int (lk on x), mV (lkM ms x)]))
    have e2 := up htp e1 (o := .tup [V.int (lk on x), mV (lkM ms x)])
    have m2 := up htp m1 (o := .tup [V.int (lk on x), mV (lkM ms x)])
    have t2 := upd_same (H := H') (a := tp) (o := .tup [V.int (lk on x), mV (lkM ms x)])
    have ftp : H tp = none := s1.free htp
    have nlt : lr ≠ tp := ne_of_none e1 htp
    have nmt : lm ≠ tp := ne_of_none m1 htp
    generalize upd H' tp (.tup [V.int (lk on x), mV (lkM ms x)]) = H2 at s2 e2 m2 t2 ⊢
    refine ⟨tp, rfl, ⟨_, SqT.of t2⟩, for_tup (K := K) (a := tp) (xs := [V.int (lk on x), mV (lkM ms x)]) (fun i σ H3 => ∃ (ys : List Int) (v7 : Option V), σ = [some (.ref p), some (.int half), some (.ref lr), some (.ref lm), some (.int (at_ : Nat)), some (.ref po), some (.ref pm), v7] ∧ Same H H3 ∧ H3 tp = some (.tup [V.int (lk on x), mV (lkM ms x)]) ∧ H3 lr = some (.lst (ys.map V.int)) ∧ H3 lm = some (.set (fun k => decide (k ∈ ys)) ys.length) ∧ Rchd on ms half at_ ys ∧ at_ < ys.length ∧ ys[at_]? = some x ∧ (1 ≤ i → lk on x ∈ ys) ∧ (2 ≤ i → ∀ m, lkM ms x = some m → m ∈ ys))
      ⟨xs, _, rfl, s2, t2, e2, m2, R, c, ex, fun z => absurd z (by decide), fun z => absurd z (by decide)⟩ (fun i σ H3 _ ⟨_, _, _, _, z, _⟩ => SqT.of z) ?_ ?_⟩
    · rintro i y σ H3 hy ⟨ys, v7, rfl, s3, t3, e3, m3, R3, l3, x3, d1, d2⟩
      have hi : i < 2 := (List.getElem?_eq_some_iff.mp hy).1
      have hyl := R3.rng sk g
      have put : ∀ (z : Int), Rch on ms half z → z ∉ ys → ∀ (H4 : Hp), H4 = upd (upd H3 lm (.set (fun k => decide (k ∈ ys) || decide (k = z)) (if decide (z ∈ ys) = true then ys.length else ys.length + 1))) lr (.lst (ys.map V.int ++ [V.int z])) →
          Same H H4 ∧ H4 tp = some (.tup [V.int (lk on x), mV (lkM ms x)]) ∧ H4 lr = some (.lst ((ys ++ [z]).map V.int)) ∧ H4 lm = some (.set (fun k => decide (k ∈ ys ++ [z])) (ys ++ [z]).length) ∧ Rchd on ms half at_ (ys ++ [z]) ∧ at_ < (ys ++ [z]).length ∧ (ys ++ [z])[at_]? = some x := fun z rz nz H4 e4 => by
        subst e4
        refine ⟨same_set (same_set s3 flm) hlr, by rw [upd_ne (Ne.symm nlt), upd_ne (Ne.symm nmt)]; exact t3, by rw [upd_same, List.map_append]; rfl, ?_, R3.more rz nz (by omega), by rw [List.length_append]; omega, by rw [List.getElem?_append_left l3]; exact x3⟩
        rw [upd_ne (Ne.symm nrm), upd_same, snoc_set, if_neg (by simpa using nz), List.length_append]; rfl
      match i, hi with
      | 0, _ =>
        obtain rfl : y = V.int (lk on x) := (Option.some.inj hy).symm
        refine ⟨_, rfl, rfl, _, rfl, itP rfl ?_⟩
        refine ⟨_, rfl, _, rfl, lk on x, lm, _, _, rfl, rfl, m3, _, rfl, ?_⟩
        by_cases hin : lk on x ∈ ys
        · refine itN (show (!decide (lk on x ∈ ys)) = false by simp [hin]) ?_
          exact ⟨ys, _, rfl, s3, t3, e3, m3, R3, l3, x3, fun _ => hin, fun z => absurd z (by decide)⟩
        · refine itP (show (!decide (lk on x ∈ ys)) = true by simp [hin]) ?_
          refine ⟨_, rfl, .inr (.inr (.inr (.inr ⟨rfl, _, _, m3⟩))), _, rfl, lm, lk on x, _, _, rfl, rfl, m3, by omega, ?_⟩
          refine ⟨_, rfl, .inl ⟨rfl, _, SqL.of (by rw [upd_ne nrm]; exact e3)⟩, _, rfl, lr, _, _, rfl, rfl, (by rw [upd_ne nrm]; exact e3), by rw [List.length_map, sizeLine_eq]; omega, ?_⟩
          obtain ⟨k1, k2, k3, k4, k5, k6, k7⟩ := put (lk on x) (.next rx) hin _ rfl
          exact ⟨ys ++ [lk on x], _, rfl, k1, k2, k3, k4, k5, k6, k7, fun _ => by simp, fun z => absurd z (by decide)⟩
      | 1, _ =>
        obtain rfl : y = mV (lkM ms x) := (Option.some.inj hy).symm
        cases em : lkM ms x with
        | none =>
          rw [em] at t3
          refine ⟨_, rfl, rfl, _, rfl, itN rfl (itN rfl ?_)⟩
          exact ⟨ys, _, rfl, s3, t3, e3, m3, R3, l3, x3, fun _ => d1 (by decide), fun _ m z => by cases z⟩
        | some mm =>
        rw [em] at put t3
        refine ⟨_, rfl, rfl, _, rfl, itP rfl ?_⟩
        refine ⟨_, rfl, _, rfl, mm, lm, _, _, rfl, rfl, m3, _, rfl, ?_⟩
        by_cases hin : mm ∈ ys
        · refine itN (show (!decide (mm ∈ ys)) = false by simp [hin]) ?_
          exact ⟨ys, _, rfl, s3, t3, e3, m3, R3, l3, x3, fun _ => d1 (by decide), fun _ m z => by cases z; exact hin⟩
        · refine itP (show (!decide (mm ∈ ys)) = true by simp [hin]) ?_
          refine ⟨_, rfl, .inr (.inr (.inr (.inr ⟨rfl, _, _, m3⟩))), _, rfl, lm, mm, _, _, rfl, rfl, m3, by omega, ?_⟩
          refine ⟨_, rfl, .inl ⟨rfl, _, SqL.of (by rw [upd_ne nrm]; exact e3)⟩, _, rfl, lr, _, _, rfl, rfl, (by rw [upd_ne nrm]; exact e3), by rw [List.length_map, sizeLine_eq]; omega, ?_⟩
          obtain ⟨k1, k2, k3, k4, k5, k6, k7⟩ := put mm (.mate rx em) hin _ rfl
          exact ⟨ys ++ [mm], _, rfl, k1, k2, k3, k4, k5, k6, k7, fun _ => List.mem_append_left _ (d1 (by decide)), fun _ m z => by cases z; simp⟩
    · rintro σ H3 ⟨ys, v7, rfl, s3, t3, e3, m3, R3, l3, x3, d1, d2⟩
      refine ⟨_, rfl, _, _, rfl, rfl, ?_⟩
      have R4 : Rchd on ms half (at_ + 1) ys := ⟨R3.nd, R3.hf, R3.re, fun j y hj hy => by
        by_cases ej : j = at_
        · subst ej
          rw [x3] at hy
          cases hy
          exact ⟨d1 (by show 1 ≤ 2; decide), d2 (by show 2 ≤ 2; decide)⟩
        · exact R3.nx j y (by omega) hy⟩
      exact ⟨ys, _, rfl, l3, s3, e3, m3, R4⟩
  · have c : at_ = xs.length := by
      have : ¬ ((at_ : Int) < ((xs.map V.int).length : Int)) := fun z => c (decide_eq_true z)
      rw [List.length_map] at this; omega
    subst c
    exact ⟨_, rfl, q lr xs H' s1 hlr e1 R.nd R.all⟩
theorem scParts : FnScope ["skin"] ["skin"] (defScope s_parts) := ⟨rfl, rfl, rfl, by decide +kernel, rfl, by decide +kernel, by decide +kernel⟩
noncomputable def gPart : List Int → List (Option Int) → Int → List Int := fun on ms h => partL on ms h
theorem le_lt {l : List Int} (h1 : l.Pairwise (· ≤ ·)) (h2 : l.Nodup) : l.Pairwise (· < ·) := (h1.and (List.nodup_iff_pairwise_ne.mp h2)).imp fun {a b} ⟨h, k⟩ => by omega
theorem rch_part {on : List Int} {ms : List (Option Int)} {h : Int} {xs ys : List Int} (S : SkinOk on ms) (g : InR on.length h) (nd : xs.Nodup) (hx : ∀ x, x ∈ xs ↔ Rch on ms h x) (p : ys.Perm xs) (le : ys.Pairwise (· ≤ ·)) : ys = partL on ms h :=
  pw_ext (le_lt le (p.nodup_iff.mpr nd)) (partL_lt h) fun x => by
    rw [p.mem_iff, hx, partL_mem]
    exact ⟨fun r => ⟨r.rng S g, r⟩, fun z => z.2⟩
theorem cells_ofParts {L f : Addr} {cd : Value} : ∀ y ∈ (lamScope s_parts).names, y.2 = .free → ∃ cc, (PyProof.Rows.envOfC "parts" (defScope s_parts) L f cd).cells.lookup y.1 = some cc := fun y hy hf => cell_has (by
  revert y; decide +kernel)
theorem ok_parts {c Tp : Addr} {T : TabL} (hT : tabOf Tp "parts" s_parts ∈ T) (hU : ∀ t ∈ T, t.1 = Tp → t = tabOf Tp "parts" s_parts) (B : Bi mg) (kin : K.In base) (Cd : ∀ h, K.In h → PySem.W.CodeHd h c Tp) (Bm : Bmain mg base) (hSo : mg "sorted" = none) (FO : FnS P w K mg base "each_once" ["halves", "walk_from"] 6 (spOnce P w K mg base 5)) (FH : Fn P w K mg base "all_halves" ["skin"] 1 spHal) (FRe : Fn P w K mg base "reached_from" ["skin", "half"] 1 spReach)
    (F : FunC K "parts" "parts" s_parts f fd c) : FnOk P w K mg base CX0 7 f fd ["skin"] (spAllW T gPart (fun on _ => rngL on.length)) := by
  refine F.ok scParts (fun vs H Q E h => ?_) (fun A outer s H vs Q E hr h => ?_)
  · obtain ⟨p, on, ms, rfl, _⟩ := h; rfl
  obtain ⟨p, on, ms, rfl, S, TS, q⟩ := h
  have sk := S.ok
  have hle := sk.le
  refine ⟨_, (pss_one (ps_ret (pe_once (k := 4) (pn := "half") (fs := ["skin"]) FO hr (by decide) rfl (by intro y hy hf; exact cells_ofParts y hy hf) rfl (Cd _ kin) Bm (fun _ => rfl) ⟨rfl, rfl, rfl, by decide +kernel, rfl, by decide +kernel⟩ (fun _ _ _ => rfl) (pe_callF FH hr (by decide) (pa_cons (pv 0) pa_nil))))), ?_⟩
  refine ⟨_, rfl, p, on, ms, rfl, S, fun lh H1 s1 f1 e1 => ?_⟩
  have LT := (TS.same s1) _ hT
  refine ⟨LT, fun fv c' ctv H2 LT2 CO2 ff2 hf2 k2 => ?_⟩
  obtain ⟨TS2, L2'⟩ := (TS.same s1).lam hU LT2 LT k2
  have e2 := L2' _ _ e1 (fun _ z => nomatch z)
  have S2 := (S.same s1).loose L2'
  refine ⟨lh, fv, c', ctv, rngL on.length, [.ref p], fun h => InR on.length h, partL on ms, rfl, e2, by rw [rngL_len]; exact hle, hf2, CO2, ⟨rfl, fun j y v h1 h2 => ?_⟩, fun A' outer' s' H' h Q' hr' sm hd' q' => ?_, fun h hh => ⟨rngL_mem.mp hh, fun z hz => ?_⟩, fun r H3 s3 f3 R3 => ?_⟩
  · match j, h1, h2 with
    | 0, h1, h2 => cases h1; cases h2; exact ⟨0, rfl, rfl, rfl⟩
  · refine ⟨_, pe_callTy call_tuple_of rfl B.tuple_ bt_tuple (pa_cons (pe_callB cr_sortA rfl hSo bt_sorted (pa_cons (pe_callF FRe hr' (by decide) (pa_cons (pv 1) (pa_cons (pv 0) pa_nil))) pa_nil)) pa_nil), ?_⟩
    refine ⟨_, rfl, _, rfl, p, on, ms, h, rfl, S2.same sm, hd', fun lr xs H3 s3 f3 e3 nd hx => ?_⟩
    refine ⟨lr, xs, rfl, SqL.of e3, fun ys l2 pm le hl2 => ?_⟩
    obtain rfl := rch_part sk hd' nd hx pm le
    refine ⟨l2, _, rfl, .inl ⟨SqL.of upd_same, fun r hr0 => ?_⟩⟩
    have s4 := s3.trans ((same_put hl2 (.lst ((partL on ms h).map V.int))).trans (same_put hr0 (.tup ((partL on ms h).map V.int))))
    exact q' r _ s4 ((s3.trans (same_put hl2 (.lst ((partL on ms h).map V.int)))).free hr0) upd_same
  · have := (partL_mem.mp hz).1
    unfold InR at this ⊢
    omega
  · exact q r H3 (s1.loose.trans (L2'.trans s3.loose)) (TS2.same s3) R3
end
end Hs
set_option Elab.async false
set_option linter.all false
set_option maxRecDepth 100000
namespace L2
open PySem PySem.Spec PyProof.Rows
section
variable {prog : Program} {w : World} {A : Around} {E : Value → Shared → Prop} {s : Shared}
theorem draw_list {it t : Addr} {items : Array Value} (hne : t ≠ it) : ∀ (n i : Nat) (s : Shared) (Q : List Value → Shared → Prop), s.heap.IsListIter it t i → s.heap.IsList t items → i + n ≤ items.size →
    (∀ h', h'.IsListIter it t (i + n) → Heap.SameBut it s.heap h' → Q ((items.toList.drop i).take n) { s with heap := h' }) → wpAny (model prog w) A (draw (.ref it) n) Q E s
  | 0, i, s, Q, hit, _, _, hQ => by
    show wpAny _ _ (pure []) Q E s
    exact wpAny_pure (by simpa using hQ s.heap hit (Heap.SameBut.refl ..))
  | n + 1, i, s, Q, hit, ht, hle, hQ => by
    have hlt : i < items.size := by omega
    show wpAny _ _ (pyNext (.ref it) >>= _) Q E s
    refine wpAny_bind (wpAny_pyNext_list_item hit ht (x := items[i]) (by simp [hlt]) fun h₁ hit₁ hs₁ => ?_)
    refine wpAny_bind (wpAny_holding (draw_list hne n (i + 1) _ _ hit₁ (ht.extBut hs₁.extBut hne) (by omega) fun h₂ hit₂ hs₂ => wpAny_pure ?_))
    have hd : items.toList.drop i = items[i] :: items.toList.drop (i + 1) := by simp [List.drop_eq_getElem_cons, hlt]
    have := hQ h₂ (by rw [show i + (n + 1) = i + 1 + n by omega]; exact hit₂) (hs₁.trans hs₂)
    rw [hd, List.take_succ_cons] at this
    exact this
theorem unpackItems_list {t : Addr} {items : Array Value} {Q : List Value → Shared → Prop} (hh : A.handled = none) (ht : s.heap.IsList t items)
    (hQ : ∀ h', Heap.ExtBut s.heap.objs.size s.heap h' → Q items.toList { s with heap := h' }) : wpAny (model prog w) A (unpackItems (.ref t) items.size none) Q E s := by
  have hlt : t ≠ s.heap.objs.size := by obtain ⟨o, ho, _⟩ := ht; exact Nat.ne_of_lt (Heap.lt_size ho)
  unfold unpackItems
  refine wpAny_bind ?_
  unfold notIterableAtAll
  refine wpAny_bind (wpAny_specialOf ht.typeIs slot_list_iter.lookup ?_)
  refine wpAny_pure ?_
  simp only [Bool.false_eq_true, if_false]
  refine wpAny_bind (wpAny_holding (wpAny_pyIter_list ht ?_))
  have ht0 : (s.heap.push { cls := .type "list_iterator", data := .fields #[.ref t, .int 0 0] }).IsList t items := ht.push _
  refine wpAny_bind (wpAny_holding (draw_list hlt items.size 0 _ _ ⟨_, Heap.get?_push_size _ rfl, rfl, rfl⟩ ht0 (by omega) fun h₁ hit₁ hs₁ => ?_))
  have hall : List.take items.size (List.drop 0 items.toList) = items.toList := by
    rw [List.drop_zero]; exact List.take_of_length_le (by simp)
  rw [hall]
  rw [if_neg (by simp)]
  have ht₁ : h₁.IsList t items := ht0.extBut hs₁.extBut hlt
  refine wpAny_bind (wpAny_holding (wpAny_pyNext_list_end hh hit₁ ht₁ (by simp) fun h₂ he₂ => ?_))
  simp only [Option.isSome_none, Bool.false_eq_true, if_false]
  refine wpAny_pure (hQ h₂ fun b o hb e => he₂ b o hb (hs₁.extBut b o hb (Heap.get?_push_of_some _ e)))
theorem unpack_list {t : Addr} {items : Array Value} {targets : List (Bool × (Value → Sem Unit))} {Q : Unit → Shared → Prop} (hh : A.handled = none) (ht : s.heap.IsList t items)
    (hn : targets.length = items.size) (hstar : targets.findIdx? (·.1) = none)
    (h : ∀ h', Heap.ExtBut s.heap.objs.size s.heap h' → wpAny (model prog w) A (assignInOrder (targets.map (·.2)) items.toList) Q E { s with heap := h' }) :
    wpAny (model prog w) A (unpack (.ref t) targets) Q E s := by
  unfold unpack
  rw [hn, hstar]
  exact wpAny_bind (wpAny_holding (unpackItems_list hh ht h))
theorem assign_Tuple_list {env : Env} {elts : List Expr} {x1} {pos : Pos} {t : Addr} {items : Array Value} {Q : Unit → Shared → Prop} (hh : A.handled = none) (ht : s.heap.IsList t items)
    (hn : (assignEach elts env).length = items.size) (hstar : (assignEach elts env).findIdx? (·.1) = none)
    (h : ∀ h', Heap.ExtBut s.heap.objs.size s.heap h' → wpAny (model prog w) A (assignInOrder ((assignEach elts env).map (·.2)) items.toList) Q E { s with heap := h' }) :
    wpAny (model prog w) A (assign (.Tuple elts x1 pos) env (.ref t)) Q E s := by
  rw [assign_Tuple]
  exact wpAny_bind (wpAny_standAt (unpack_list hh ht hn hstar h))
end
section
variable {X : Cx} {pos : Pos}
def gTupL (K : PySem.W.Frag) (n : Nat) (t : TGs) : TG := fun v σ H Q => ∃ a xs, v = .ref a ∧ SqL K H a xs ∧ xs.length = n ∧ t xs σ H Q
theorem pg_tupL {es : List Expr} {k : Nat} {t : TGs} {n : Nat} (hc : X.calm = true) (h : PGs X es t)
    (hn : (assignEach es X.env).length = n := by rfl) (hst : (assignEach es X.env).findIdx? (·.1) = none := by rfl) : PG X (.Tuple es k pos) (gTupL X.K n t) := by
  intro pins s σ H v u Q I r hw
  obtain ⟨a, xs, e1, hq, hl, hw⟩ := hw
  subst e1
  cases r
  obtain ⟨its, rv, ht, hz⟩ := I.list hq
  refine assign_Tuple_list (I.ok.hd hc) ht.isList (by simp [hn, ← hl, rv.length]) hst fun h' hx => ?_
  have I1 : Inv X pins σ H { s with heap := h' } := I.kept (t' := s.toks) fun b o e => hx b o (Nat.ne_of_lt (Heap.lt_size e)) e
  exact h pins _ σ H xs _ Q I1 (by simpa using rv) hw
end
end L2
set_option Elab.async false
set_option linter.all false
set_option maxRecDepth 100000
namespace L2
open PySem PySem.Spec PyProof.Rows
variable {X : Cx}
def rGetL (K : PySem.W.Frag) : V → V → Hp → VK → Prop := fun x y H Q => ∃ p xs i v, x = .ref p ∧ y = .int i ∧ SqL K H p xs ∧ 0 ≤ i ∧ atI xs i = some v ∧ Q v H
theorem get_list : PGet X (rGetL X.K) := by
  intro pins s σ H x y v u Q I rx ry h
  obtain ⟨p, xs, i, z, rfl, rfl, hq, h0, he, q⟩ := h
  cases rx
  obtain ⟨t, rfl⟩ := ry
  obtain ⟨its, r, pl, hz⟩ := I.list hq
  obtain ⟨j, h1, h2, h3, h4, h5⟩ := atI_get he
  obtain ⟨w, ew, rw'⟩ := r.get h2
  have hl := r.length
  have hn := line63
  have fin : EP X pins σ Q w s := ⟨z, H, I, rw', q⟩
  have hj : i.toNat = j := by
    rw [seqIndex_of h0 h5] at h1
    exact Option.some.inj h1
  exact wpAny_getItem_list pl.isList h0 (by omega) (by rw [hj]; simpa using ew) fin
theorem pa_starK {K : PySem.W.Frag} {e : Expr} {es : List Expr} {p : Pos} {te : TE} {t : TA} (hK : X.K = K) (h : PE X e te) (hr : PA X es t) (he : starEach (.Starred e p :: es) X.env = (true, eval e X.env) :: starEach es X.env := by rfl) : PA X (.Starred e p :: es) (tStar K te t) := by
  subst hK; exact pa_star h hr he
end L2
set_option Elab.async false
set_option linter.all false
set_option maxRecDepth 100000
namespace Hs
open PySem L2
structure PartsOk (n : Nat) (P : List (List Int)) : Prop where
  rng : ∀ (j : Nat) (row : List Int), P[j]? = some row → ∀ h ∈ row, InR n h
  len : P.length ≤ n
  all : ∀ h, InR n h → ∃ (j : Nat) (row : List Int), P[j]? = some row ∧ h ∈ row
  one : ∀ (j k : Nat) (r q : List Int) (h : Int), P[j]? = some r → P[k]? = some q → h ∈ r → h ∈ q → j = k
theorem SkinOk.partsOk {on : List Int} {ms : List (Option Int)} (S : SkinOk on ms) : PartsOk on.length (partsL on ms) := by
  rw [S.parts_map]
  have hm : ∀ x, x ∈ (rngL on.length).filter (fun h => decide (repP on ms h = h)) ↔ InR on.length x ∧ repP on ms x = x := fun x => by
    rw [List.mem_filter, rngL_mem, decide_eq_true_iff]
  have nd : ((rngL on.length).filter (fun h => decide (repP on ms h = h))).Nodup := ((rngL_lt on.length).imp fun {a b} h => (by omega : a ≠ b)).sublist List.filter_sublist
  have hl : ((rngL on.length).filter (fun h => decide (repP on ms h = h))).length ≤ on.length := by
    have := List.length_filter_le (fun h => decide (repP on ms h = h)) (rngL on.length)
    rw [rngL_len] at this; exact this
  generalize (rngL on.length).filter (fun h => decide (repP on ms h = h)) = L at hm nd hl
  have get : ∀ (j : Nat) (row : List Int), (L.map (partL on ms))[j]? = some row → ∃ a, L[j]? = some a ∧ row = partL on ms a ∧ InR on.length a ∧ repP on ms a = a := fun j row e => by
    rw [List.getElem?_map] at e
    obtain ⟨a, ha, rfl⟩ := Option.map_eq_some_iff.mp e
    exact ⟨a, ha, rfl, (hm a).mp (List.mem_of_getElem? ha)⟩
  refine ⟨fun j row e h hh => ?_, by rw [List.length_map]; exact hl, fun h g => ?_, fun j k r q h ej ek hr hq => ?_⟩
  · obtain ⟨a, _, rfl, _, _⟩ := get j row e
    exact (partL_mem.mp hh).1
  · have hmem : repP on ms h ∈ L := (hm _).mpr ⟨(S.rep g).1, S.rep_rep g⟩
    obtain ⟨j, hj, ej⟩ := List.getElem_of_mem hmem
    refine ⟨j, partL on ms (repP on ms h), by rw [List.getElem?_map, List.getElem?_eq_getElem hj, ej]; rfl, partL_mem.mpr ⟨g, Rch.symm S g (S.rep g).2.1⟩⟩
  · obtain ⟨a, ha, rfl, ga, ra⟩ := get j r ej
    obtain ⟨b, hb, rfl, gb, rb⟩ := get k q ek
    have h1 := partL_mem.mp hr
    have h2 := partL_mem.mp hq
    have e : a = b := by rw [← ra, ← rb, S.rep_one ga h1.1 h1.2, S.rep_one gb h2.1 h2.2]
    subst e
    obtain ⟨lj, ej'⟩ := List.getElem?_eq_some_iff.mp ha
    obtain ⟨lk', ek'⟩ := List.getElem?_eq_some_iff.mp hb
    exact (List.getElem_inj (h₀ := lj) (h₁ := lk') nd).mp (ej'.trans ek'.symm)
def numW (ws : List (List Int)) (row : List Int) : Int := ((ws.filter fun w => decide (w.headD 0 ∈ row)).length : Int)
theorem numW_snoc (ws : List (List Int)) (w row : List Int) : numW (ws ++ [w]) row = numW ws row + if w.headD 0 ∈ row then 1 else 0 := by
  unfold numW
  rw [List.filter_append, List.length_append]
  by_cases h : w.headD 0 ∈ row
  · rw [if_pos h, List.filter_cons_of_pos (by simpa using h)]; rfl
  · rw [if_neg h, List.filter_cons_of_neg (by simpa using h)]; rfl
def hndL (a b c d : Int) : Int := (2 - a + b - c - d) / 2
noncomputable def cntL (KN SE PA RI : List (List Int)) (row : List Int) : List Int := [numW KN row, numW SE row, numW PA row, numW RI row, hndL (numW KN row) (numW SE row) (numW PA row) (numW RI row)]
structure PaOk (n : Nat) (P : List (List Int)) (i : Nat) (ls : List Int) : Prop where
  len : ls.length = n
  to : ∀ (j : Nat) (row : List Int), j < i → P[j]? = some row → ∀ h ∈ row, ls[h.toNat]? = some (j : Int)
theorem PaOk.set {n : Nat} {P : List (List Int)} {i : Nat} {ls row : List Int} {h : Int} (O : PartsOk n P) (A : PaOk n P i ls) (e : P[i]? = some row) (hh : h ∈ row) (v : Int) : PaOk n P i (ls.set h.toNat v) := by
  refine ⟨by rw [List.length_set]; exact A.len, fun j r hj ej x hx => ?_⟩
  rw [List.getElem?_set_ne]
  · exact A.to j r hj ej x hx
  · intro z
    have gx := O.rng j r ej x hx
    have gh := O.rng i row e h hh
    unfold InR at gx gh
    have : x = h := by omega
    subst this
    have := O.one j i r row x ej e hx hh
    omega
theorem ix_inC {xs : List V} {k : Int} {n : Nat} (hx : xs.length = n) (g : InR n k) : ixN xs.length k = some k.toNat := by
  unfold ixN
  rw [if_pos g.1, if_pos (by rw [hx]; omega)]
theorem set_mapC (l : List Int) (j : Nat) (v : Int) : (l.map V.int).set j (.int v) = (l.set j v).map V.int := by rw [List.map_set]
structure Mx (H : Hp) (lr : Addr) (rs : List Addr) (M : List (List Int)) : Prop where
  top : H lr = some (.lst (rs.map V.ref))
  len : rs.length = M.length
  at_ : ∀ (j : Nat) (r : Addr) (row : List Int), rs[j]? = some r → M[j]? = some row → H r = some (.lst (row.map V.int))
  nd : rs.Nodup
  off : lr ∉ rs
theorem Mx.loose {H H' : Hp} {lr : Addr} {rs : List Addr} {M : List (List Int)} (m : Mx H lr rs M) (l : Loose H H') : Mx H' lr rs M :=
  ⟨l _ _ m.top nofun, m.len, fun j r row h1 h2 => l _ _ (m.at_ j r row h1 h2) nofun, m.nd, m.off⟩
theorem Mx.set {H : Hp} {lr r : Addr} {rs : List Addr} {M : List (List Int)} {j : Nat} (m : Mx H lr rs M) (hr : rs[j]? = some r) (row : List Int) : Mx (upd H r (.lst (row.map V.int))) lr rs (M.set j row) := by
  have hj : j < rs.length := (List.getElem?_eq_some_iff.mp hr).1
  refine ⟨?_, by rw [List.length_set]; exact m.len, fun k a q h1 h2 => ?_, m.nd, m.off⟩
  · rw [upd_ne fun z => m.off (by rw [z]; exact List.mem_of_getElem? hr)]; exact m.top
  · by_cases e : k = j
    · subst e
      rw [hr] at h1
      obtain rfl := Option.some.inj h1
      rw [List.getElem?_set_self (by rw [← m.len]; exact hj)] at h2
      obtain rfl := Option.some.inj h2
      exact upd_same
    · rw [List.getElem?_set_ne (fun z => e z.symm)] at h2
      rw [upd_ne]
      · exact m.at_ k a q h1 h2
      · intro z
        subst z
        obtain ⟨l1, e1⟩ := List.getElem?_eq_some_iff.mp h1
        obtain ⟨l2, e2⟩ := List.getElem?_eq_some_iff.mp hr
        exact e ((List.getElem_inj (h₀ := l1) (h₁ := l2) m.nd).mp (e1.trans e2.symm))
noncomputable def cAt (W : Nat → List (List Int)) (k i : Nat) (row : List Int) (t : Nat) : Int := if t < k then numW (W t) row else if t = k then numW ((W k).take i) row else 0
noncomputable def rowM (W : Nat → List (List Int)) (k i : Nat) (row : List Int) : List Int := [cAt W k i row 0, cAt W k i row 1, cAt W k i row 2, cAt W k i row 3]
theorem cAt_next (W : Nat → List (List Int)) (k : Nat) (row : List Int) (t : Nat) : cAt W (k + 1) 0 row t = cAt W k (W k).length row t := by
  unfold cAt
  by_cases h1 : t < k
  · rw [if_pos h1, if_pos (by omega)]
  · rw [if_neg h1]
    by_cases h2 : t = k
    · subst h2; rw [if_pos (by omega), if_pos rfl, List.take_of_length_le (Nat.le_refl _)]
    · rw [if_neg (by omega), if_neg h2]
      split
      · rw [List.take_zero]; rfl
      · rfl
theorem rowM_next (W : Nat → List (List Int)) (k : Nat) (row : List Int) : rowM W (k + 1) 0 row = rowM W k (W k).length row := by
  unfold rowM
  rw [cAt_next, cAt_next, cAt_next, cAt_next]
theorem cAt_step {W : Nat → List (List Int)} {k i : Nat} {w : List Int} (row : List Int) (t : Nat) (h : (W k)[i]? = some w) : cAt W k (i + 1) row t = cAt W k i row t + if t = k ∧ w.headD 0 ∈ row then 1 else 0 := by
  unfold cAt
  by_cases h1 : t < k
  · rw [if_pos h1, if_pos h1, if_neg (fun z => by omega)]; omega
  · rw [if_neg h1, if_neg h1]
    by_cases h2 : t = k
    · rw [if_pos h2, if_pos h2, List.take_succ, h]
      show numW ((W k).take i ++ [w]) row = _
      rw [numW_snoc]
      by_cases h3 : w.headD 0 ∈ row
      · rw [if_pos h3, if_pos ⟨h2, h3⟩]
      · rw [if_neg h3, if_neg (fun z => h3 z.2)]
    · rw [if_neg h2, if_neg h2, if_neg (fun z => h2 z.1)]; rfl
theorem rowM_miss {W : Nat → List (List Int)} {k i : Nat} {w row : List Int} (h : (W k)[i]? = some w) (hn : w.headD 0 ∉ row) : rowM W k (i + 1) row = rowM W k i row := by
  unfold rowM
  rw [cAt_step row 0 h, cAt_step row 1 h, cAt_step row 2 h, cAt_step row 3 h]
  rw [List.headD_eq_head?_getD] at hn
  simp [hn]
theorem rowM_hit {W : Nat → List (List Int)} {k i : Nat} {w row : List Int} (hk : k < 4) (h : (W k)[i]? = some w) (hn : w.headD 0 ∈ row) : rowM W k (i + 1) row = (rowM W k i row).set k (cAt W k i row k + 1) := by
  unfold rowM
  rw [cAt_step row 0 h, cAt_step row 1 h, cAt_step row 2 h, cAt_step row 3 h]
  rw [List.headD_eq_head?_getD] at hn
  have : k = 0 ∨ k = 1 ∨ k = 2 ∨ k = 3 := by omega
  rcases this with rfl | rfl | rfl | rfl <;> simp [hn]
theorem rowM_get {W : Nat → List (List Int)} {k i : Nat} {row : List Int} (hk : k < 4) : (rowM W k i row)[k]? = some (cAt W k i row k) := by
  have : k = 0 ∨ k = 1 ∨ k = 2 ∨ k = 3 := by omega
  rcases this with rfl | rfl | rfl | rfl <;> rfl
theorem rows_step {W : Nat → List (List Int)} {n k i j : Nat} {P : List (List Int)} {w row : List Int} (O : PartsOk n P) (hk : k < 4) (h : (W k)[i]? = some w) (hj : P[j]? = some row) (hw : w.headD 0 ∈ row) :
    (P.map (rowM W k i)).set j ((rowM W k i row).set k (cAt W k i row k + 1)) = P.map (rowM W k (i + 1)) := by
  have lj : j < P.length := (List.getElem?_eq_some_iff.mp hj).1
  refine List.ext_getElem? fun m => ?_
  by_cases e : m = j
  · subst e
    rw [List.getElem?_set_self (by rw [List.length_map]; exact lj), List.getElem?_map, hj, ← rowM_hit hk h hw]; rfl
  · rw [List.getElem?_set_ne (fun z => e z.symm), List.getElem?_map, List.getElem?_map]
    cases em : P[m]? with
    | none => rfl
    | some r =>
      have : w.headD 0 ∉ r := fun z => e (O.one m j r row _ em hj z hw)
      show some _ = some _
      rw [rowM_miss h this]
end Hs
set_option Elab.async false
set_option linter.all false
set_option maxRecDepth 100000
set_option maxHeartbeats 4000000
namespace Hs
open PySem L2
section
variable {P : Program} {w : World} {K : PySem.W.Frag} {mg : Str → Option Value} {base : Heap} {f : Addr} {fd : FuncData} {C : CsA} {S fH : Addr} {tM : Tok}
theorem scHandles : FnScope ["row", "many_knots", "many_seams", "many_patches", "many_rims"] ["row"] (defScope s_handles_of) := ⟨rfl, rfl, rfl, by decide +kernel, rfl, by decide +kernel, by decide +kernel⟩
def spHandles (K : PySem.W.Frag) : Sp := fun vs H Q _ => ∃ (r : Addr) (a b c d : Int), vs = [.ref r] ∧ SqL K H r [.int a, .int b, .int c, .int d] ∧ Q (.int (hndL a b c d)) H
theorem ok_handles (F : Fun K "handles_of" "handles_of" s_handles_of f fd) : FnOk P w K mg base CX0 1 f fd ["row"] (spHandles K) := by
  refine F.ok scHandles (fun vs H Q E h => ?_) (fun cdv A outer s H vs Q E hr h => ?_)
  · obtain ⟨r, a, b, c, d, rfl, _⟩ := h; rfl
  obtain ⟨r, a, b, c, d, rfl, hr0, q⟩ := h
  refine ⟨_, (pss_cons (ps_asg (pv 0) (pg_tupL rfl (pgs_cons (pg_name (i := 1) scHandles.nd rfl (Or.inl rfl)) (pgs_cons (pg_name (i := 2) scHandles.nd rfl (Or.inl rfl)) (pgs_cons (pg_name (i := 3) scHandles.nd rfl (Or.inl rfl)) (pgs_cons (pg_name (i := 4) scHandles.nd rfl (Or.inl rfl)) pgs_nil))))))
   (pss_one (ps_ret (pe_op op_fdiv (pe_op op_sub (pe_op op_sub (pe_op op_add (pe_op op_sub pe_int (pv 1)) (pv 2)) (pv 3)) (pv 4)) pe_int)))), ?_⟩
  refine ⟨_, rfl, r, _, rfl, hr0, rfl, _, _, rfl, _, _, rfl, _, _, rfl, _, _, rfl, rfl, ?_⟩
  exact ⟨_, rfl, _, _, rfl, rfl, _, rfl, _, _, rfl, rfl, _, rfl, _, _, rfl, rfl, _, rfl, _, _, rfl, rfl, _, _, rfl, rfl, ⟨by decide, by decide⟩, q⟩
theorem scCounts : FnScope ["skin", "all_parts", "part_at", "rows", "place", "part", "half", "kind", "walks", "walk", "row"] ["skin"] (defScope s_counts) := ⟨rfl, rfl, rfl, by decide +kernel, rfl, by decide +kernel, by decide +kernel⟩
theorem rep_zero (k : Nat) : (List.replicate k [V.int 0]).flatten = (List.replicate k (0 : Int)).map V.int := by
  induction k with
  | zero => rfl
  | succ k ih => rw [List.replicate_succ, List.flatten_cons, ih]; rfl
def WalksOk (n : Nat) (ws : List (List Int)) : Prop := ∀ w ∈ ws, ∃ a t, w = a :: t ∧ InR n a
noncomputable def fourW (KN SE PA RI : List (List Int)) (t : Nat) : List (List Int) := [KN, SE, PA, RI].getD t []
noncomputable def allC (on : List Int) (ms : List (Option Int)) : List (List Int) := (partsL on ms).map (cntL (onceF (gKnot on ms) [] (rngL on.length)) (seamsF ms on.length) (onceF (gPatch on ms) [] (hsAll on ms)) (onceF (gRim on ms) [] (hsRim on ms)))
def spCounts (T : TabL) : Sp := fun vs H Q _ => ∃ (p : Addr) (on : List Int) (ms : List (Option Int)), vs = [.ref p] ∧ SkAt H p on ms ∧ Tabs T H ∧
  ∀ r H', Loose H H' → Tabs T H' → Rows H' r (allC on ms) → Q (.ref r) H'
theorem ok_counts {T : TabL} (B : Bi mg) (FPs : Fn P w K mg base "parts" ["skin"] 7 (spAllW T gPart (fun on _ => rngL on.length))) (FKn : Fn P w K mg base "knots" ["skin"] 7 (spAllW T gKnot (fun on _ => rngL on.length))) (FSm : Fn P w K mg base "seams" ["skin"] 1 spSeams) (FPt : Fn P w K mg base "patches" ["skin"] 7 (spAllW T gPatch hsAll)) (FRm : Fn P w K mg base "rims" ["skin"] 7 (spAllW T gRim hsRim)) (FHo : Fn P w K mg base "handles_of" ["row"] 1 (spHandles K))
    (WO : ∀ on ms, SkinOk on ms → WalksOk on.length (onceF (gKnot on ms) [] (rngL on.length)) ∧ WalksOk on.length (seamsF ms on.length) ∧ WalksOk on.length (onceF (gPatch on ms) [] (hsAll on ms)) ∧ WalksOk on.length (onceF (gRim on ms) [] (hsRim on ms)))
    (F : Fun K "counts" "counts" s_counts f fd) : FnOk P w K mg base CX0 8 f fd ["skin"] (spCounts T) := by
  refine F.ok scCounts (fun vs H Q E h => ?_) (fun cdv A outer s H vs Q E hr h => ?_)
  · obtain ⟨p, on, ms, rfl, _⟩ := h; rfl
  obtain ⟨p, on, ms, rfl, S, TS, q⟩ := h
  refine ⟨_, (pss_cons (ps_set (i := 1) scCounts.nd rfl (Or.inl rfl) (pe_callF FPs hr (by decide) (pa_cons (pv 0) pa_nil)))
   (pss_cons (ps_set (i := 2) scCounts.nd rfl (Or.inl rfl) (pe_op op_rep (pe_lst (pa_cons pe_int pa_nil)) (pe_callB call_len_seq rfl B.len_ bt_len (pa_cons (pe_ix ix_tup (pv 0) pe_int (fun _ _ => rfl)) pa_nil))))
   (pss_cons (ps_for PassesOwn.never rfl (pi_enumT rfl B.enumerate_ (pa_cons (pv 1) pa_nil)) (pg_tup rfl (pgs_cons (pg_name (i := 4) scCounts.nd rfl (Or.inl rfl)) (pgs_cons (pg_name (i := 5) scCounts.nd rfl (Or.inl rfl)) pgs_nil)))
   (pss_one (ps_for PassesOwn.never rfl (pi_tup (pv 5)) (pg_name (i := 6) scCounts.nd rfl (Or.inl rfl))
   (pss_one (ps_asg (pv 4) (pg_sub (pv 2) (pv 6) set_list))))))
   (pss_cons (ps_setLc (i := 3) (own := [("part", 5)]) (g := gName 5) rfl scCounts.nd rfl rfl (sw_true rfl rfl rfl rfl) (pi_tup (pv 1)) (blkOk_by (own := [("part", 5)]) (N := ["skin", "all_parts", "part_at", "rows", "place", "part", "half", "kind", "walks", "walk", "row"]) (sc := (defScope s_counts)) (by decide +kernel)) (fun _ _ _ _ _ => (pg_name (i := 5) scCounts.nd rfl (Or.inl rfl))) (fun _ _ _ _ _ => pts_nil) (fun _ _ _ _ _ => (pe_lst (pa_cons pe_int (pa_cons pe_int (pa_cons pe_int (pa_cons pe_int pa_nil)))))))
   (pss_cons (ps_for PassesOwn.never rfl (pi_enumT rfl B.enumerate_ (pa_cons (pe_tup (pa_cons (pe_callF FKn hr (by decide) (pa_cons (pv 0) pa_nil)) (pa_cons (pe_callF FSm hr (by decide) (pa_cons (pv 0) pa_nil)) (pa_cons (pe_callF FPt hr (by decide) (pa_cons (pv 0) pa_nil)) (pa_cons (pe_callF FRm hr (by decide) (pa_cons (pv 0) pa_nil)) pa_nil))))) pa_nil)) (pg_tup rfl (pgs_cons (pg_name (i := 7) scCounts.nd rfl (Or.inl rfl)) (pgs_cons (pg_name (i := 8) scCounts.nd rfl (Or.inl rfl)) pgs_nil)))
   (pss_one (ps_for PassesOwn.never rfl (pi_tup (pv 8)) (pg_name (i := 9) scCounts.nd rfl (Or.inl rfl))
   (pss_one (ps_augS (pe_ix ix_list (pv 3) (pe_ix ix_list (pv 2) (pe_ix ix_tup (pv 9) pe_int (fun _ _ => rfl)) (fun _ _ => rfl)) (fun _ _ => rfl)) (pv 7) get_list pe_int ip_add set_list)))))
   (pss_one (ps_ret (pe_callTy call_tuple_of rfl B.tuple_ bt_tuple (pa_cons (pe_lc (own := [("row", 10)]) (g := gName 10) rfl scCounts.nd (pi_list (pv 3)) (blkOk_by (own := [("row", 10)]) (N := ["skin", "all_parts", "part_at", "rows", "place", "part", "half", "kind", "walks", "walk", "row"]) (sc := (defScope s_counts)) (by decide +kernel)) (fun _ _ _ _ _ => (pg_name (i := 10) scCounts.nd rfl (Or.inl rfl))) (fun _ _ _ _ _ => pts_nil) (fun _ _ _ _ _ => (pe_tup (pa_starK (K := K) rfl (pv 10) (pa_cons (pe_callF FHo hr (by decide) (pa_cons (pv 10) pa_nil)) pa_nil))))) pa_nil))))))))), ?_⟩
  refine ⟨_, rfl, p, on, ms, rfl, S, TS, fun ap H1 l1 TS1 R1 => ?_⟩
  have hP := S.ok.partsOk
  obtain ⟨wo0, wo1, wo2, wo3⟩ := WO on ms S.ok
  have R1 : Rows H1 ap (partsL on ms) := R1
  obtain ⟨rsP, a1, a2, a3⟩ := id R1
  have S1 := S.loose l1
  obtain ⟨sk, po, pm, h1, h2, h3⟩ := id S1
  have hle := sk.le
  unfold allC at q
  generalize partsL on ms = PP at R1 a2 a3 hP q
  have hPl := hP.len
  refine ⟨(by show 1 ≤ sizeLine; decide), fun l0 hl0 => ⟨_, rfl, p, _, _, .ref po, rfl, rfl, SqT.of (up hl0 h1), at0 _ _, po, _, rfl, .inr (SqT.of (up hl0 h2)), ?_⟩⟩
  rw [List.length_map]
  refine ⟨l0, _, _, rfl, rfl, upd_same, by omega, by omega, ?_, fun la hla => ?_⟩
  · show 1 * _ ≤ sizeLine
    rw [sizeLine_eq]; omega
  rw [rep_zero, show ((on.length : Int)).toNat = on.length by omega]
  have s2 := (same_put hl0 (.lst [V.int 0])).trans (same_put hla (.lst ((List.replicate on.length (0 : Int)).map V.int)))
  have fla : H1 la = none := (same_put hl0 _).free hla
  have e2 := upd_same (H := upd H1 l0 (.lst [V.int 0])) (a := la) (o := .lst ((List.replicate on.length (0 : Int)).map V.int))
  generalize upd (upd H1 l0 (.lst [V.int 0])) la (.lst ((List.replicate on.length (0 : Int)).map V.int)) = H2 at s2 e2 ⊢
  have nla : ∀ c u, H1 c = some u → c ≠ la := fun c u hu => ne_of_none hu fla
  refine ⟨_, rfl, ap, _, rfl, SqT.of (s2 _ _ a1), for_enumT (K := K) (a := ap) (xs := rsP.map V.ref)
    (fun i σ H3 => ∃ (v4 v5 v6 : Option V) (ls : List Int), σ = [some (.ref p), some (.ref ap), some (.ref la), none, v4, v5, v6, none, none, none, none] ∧ But la H2 H3 ∧ H3 la = some (.lst (ls.map V.int)) ∧ PaOk on.length PP i ls)
    ⟨none, none, none, _, rfl, But.refl _ _, e2, List.length_replicate, fun j row hj => absurd hj (by omega)⟩ (fun i σ H3 _ ⟨_, _, _, _, _, z, _⟩ => SqT.of (z _ _ (nla _ _ a1) (s2 _ _ a1))) ?_ ?_⟩
  · rintro i x Tt σ H3 hx ⟨v4, v5, v6, ls, rfl, B3, e3, A3⟩ hTt
    rw [List.getElem?_map] at hx
    obtain ⟨pr, hpr, rfl⟩ := Option.map_eq_some_iff.mp hx
    have hi : i < PP.length := by rw [← a2]; exact (List.getElem?_eq_some_iff.mp hpr).1
    obtain ⟨row, hrow⟩ : ∃ row, PP[i]? = some row := ⟨_, List.getElem?_eq_getElem hi⟩
    have ep := a3 i pr row hpr hrow
    have nT : la ≠ Tt := ne_of_none e3 hTt
    have B4 := B3.new (o := .tup [.int (i : Nat), .ref pr]) hTt
    have e4 := up hTt e3 (o := .tup [.int (i : Nat), .ref pr])
    have eT := upd_same (H := H3) (a := Tt) (o := .tup [.int (i : Nat), .ref pr])
    generalize upd H3 Tt (.tup [.int (i : Nat), .ref pr]) = H4 at B4 e4 eT ⊢
    refine ⟨Tt, _, rfl, SqT.of eT, rfl, _, _, rfl, _, _, rfl, rfl, ?_⟩
    have epr : ∀ H5, But la H2 H5 → H5 pr = some (.tup (row.map V.int)) := fun H5 b => b _ _ (nla _ _ ep) (s2 _ _ ep)
    refine ⟨_, rfl, pr, rfl, ⟨_, SqT.of (epr _ B4)⟩, for_tup (K := K) (a := pr) (xs := row.map V.int)
      (fun m σ H5 => ∃ (v6 : Option V) (ls : List Int), σ = [some (.ref p), some (.ref ap), some (.ref la), none, some (.int (i : Int)), some (.ref pr), v6, none, none, none, none] ∧ But la H2 H5 ∧ H5 la = some (.lst (ls.map V.int)) ∧ PaOk on.length PP i ls ∧ ∀ h ∈ row.take m, ls[h.toNat]? = some (i : Int))
      ⟨v6, ls, rfl, B4, e4, A3, fun h hh => by simp at hh⟩ (fun m σ H5 _ ⟨_, _, _, z, _⟩ => SqT.of (epr _ z)) ?_ ?_⟩
    · rintro m x σ H5 hx ⟨v6', ls5, rfl, B5, e5, A5, d5⟩
      rw [List.getElem?_map] at hx
      obtain ⟨h, hh, rfl⟩ := Option.map_eq_some_iff.mp hx
      have hmem := List.mem_of_getElem? hh
      have gh := hP.rng i row hrow h hmem
      have hl5 := A5.len
      refine ⟨_, rfl, _, rfl, _, rfl, la, _, h, h.toNat, rfl, rfl, e5, ix_inC (n := on.length) (by rw [List.length_map]; exact hl5) gh, ?_⟩
      rw [set_mapC]
      refine ⟨_, ls5.set h.toNat (i : Int), rfl, B5.put (.inl rfl), upd_same, A5.set hP hrow hmem _, fun y hy => ?_⟩
      rw [List.take_succ, hh] at hy
      have gh2 := gh
      unfold InR at gh2
      by_cases e : y = h
      · subst e
        rw [List.getElem?_set_self (by omega)]
      · have hy' : y ∈ row.take m := by
          rcases List.mem_append.mp hy with z | z
          · exact z
          · exact absurd (List.mem_singleton.mp (show y ∈ [h] from z)) e
        have gy := hP.rng i row hrow y (List.mem_of_mem_take hy')
        unfold InR at gy
        rw [List.getElem?_set_ne (by omega)]
        exact d5 y hy'
    · rintro σ H5 ⟨v6', ls5, rfl, B5, e5, A5, d5⟩
      rw [List.length_map, List.take_of_length_le (Nat.le_refl _)] at d5
      refine ⟨_, _, v6', ls5, rfl, B5, e5, A5.len, fun j r hj ej x hx => ?_⟩
      by_cases z : j < i
      · exact A5.to j r z ej x hx
      · obtain rfl : j = i := by omega
        rw [hrow] at ej
        obtain rfl := Option.some.inj ej
        exact d5 x hx
  rintro σ H3 ⟨u4, u5, u6, ls, rfl, B3, e3, A3⟩
  rw [List.length_map, a2] at A3
  have ap3 : H3 ap = some (.tup (rsP.map V.ref)) := B3 _ _ (nla _ _ a1) (s2 _ _ a1)
  have L3 : Loose H1 H3 := fun c u hu _ => B3 _ _ (nla _ _ hu) (s2 _ _ hu)
  have TS3 : Tabs T H3 := fun t m => by
    obtain ⟨ps, k1, k2, k3⟩ := (TS1.same s2) t m
    refine ⟨ps, B3 _ _ (fun z => by rw [z, e2] at k1; cases k1) k1, k2, ?_⟩
    rcases k3 with k3 | ⟨c, k3, oc, vs, q, j1, j2, j3⟩
    · exact .inl k3
    · exact .inr ⟨c, k3, oc, vs, q, B3 _ _ (fun z => by rw [z, e2] at j1; cases j1) j1, j2, j3⟩
  have S3 := S1.loose L3
  clear B3 e2 s2 hla hl0 fla
  refine ⟨_, rfl, ap, rfl, ⟨_, SqT.of ap3⟩, fun D hD => ?_⟩
  refine lc_tup (K := K) (a := ap) (xs := rsP.map V.ref) (Pv := fun i H4 => Same H3 H4 ∧ ∃ rs : List Addr, H4 D = some (.lst (rs.map V.ref)) ∧ rs.length = i ∧ rs.Nodup ∧ ∀ r ∈ rs, H3 r = none ∧ r ≠ D ∧ H4 r = some (.lst (([0, 0, 0, 0] : List Int).map V.int))) ⟨same_put hD _, [], upd_same, rfl, List.nodup_nil, nofun⟩ (fun i H4 _ pv => SqT.of (pv.1 _ _ ap3)) ?_ ?_
  · rintro i x H4 hx ⟨s4, rs, g4, hl4, nd4, ok4⟩
    have hi : i < PP.length := by
      have := (List.getElem?_eq_some_iff.mp hx).1
      rw [List.length_map, a2] at this; exact this
    refine ⟨rfl, yesT ?_⟩
    refine ⟨(by show 4 ≤ sizeLine; decide), fun nr hnr => ⟨rs.map V.ref, up hnr g4, by rw [List.length_map, hl4, sizeLine_eq]; omega, ?_⟩⟩
    have nnD : nr ≠ D := fun z => by rw [z, g4] at hnr; cases hnr
    refine ⟨same_set (s4.trans (same_put hnr _)) hD, rs ++ [nr], by rw [upd_same, List.map_append]; rfl, by rw [List.length_append, hl4]; rfl, ?_, fun r hr => ?_⟩
    · refine List.nodup_append.mpr ⟨nd4, by simp, fun a ha b hb e => ?_⟩
      rw [List.mem_singleton.mp hb] at e
      subst e
      have := (ok4 _ ha).2.2
      rw [hnr] at this; cases this
    · rcases List.mem_append.mp hr with hr | hr
      · obtain ⟨o1, o2, o3⟩ := ok4 r hr
        exact ⟨o1, o2, by rw [upd_ne o2]; exact up hnr o3⟩
      · obtain rfl := List.mem_singleton.mp hr
        exact ⟨s4.free hnr, nnD, by rw [upd_ne nnD]; exact upd_same⟩
  rintro H4 ⟨s4, rs, g4, hl4, nd4, ok4⟩
  rw [List.length_map, a2] at hl4
  have S4 := S3.same s4
  have TS4 := TS3.same s4
  have e4 := s4 _ _ e3
  have nlar : la ∉ rs := fun z => by have := (ok4 _ z).1; rw [e3] at this; cases this
  refine ⟨_, rfl, p, on, ms, rfl, S4, TS4, fun kr H5 l5 TS5 R5 => ?_⟩
  refine ⟨_, rfl, p, on, ms, rfl, S4.loose l5, fun sr H6 s6 R6 => ?_⟩
  refine ⟨_, rfl, p, on, ms, rfl, (S4.loose l5).same s6, TS5.same s6, fun pr H7 l7 TS7 R7 => ?_⟩
  refine ⟨_, rfl, p, on, ms, rfl, ((S4.loose l5).same s6).loose l7, TS7, fun rr H8 l8 TS8 R8 => ?_⟩
  refine ⟨(by show 4 ≤ sizeLine; decide), fun tw htw => ?_⟩
  have L48 : Loose H4 H8 := ((l5.trans s6.loose).trans l7).trans l8
  have l9 := (same_put htw (.tup [V.ref kr, V.ref sr, V.ref pr, V.ref rr])).loose
  have L49 := L48.trans l9
  have etw := upd_same (H := H8) (a := tw) (o := .tup [V.ref kr, V.ref sr, V.ref pr, V.ref rr])
  have R50 := ((R5.same s6).loose l7).loose (l8.trans l9)
  have R60 := (R6.loose l7).loose (l8.trans l9)
  have R70 := R7.loose (l8.trans l9)
  have R80 := R8.loose l9
  have TS9 := TS8.same (same_put htw (.tup [V.ref kr, V.ref sr, V.ref pr, V.ref rr]))
  generalize upd H8 tw (.tup [V.ref kr, V.ref sr, V.ref pr, V.ref rr]) = H9 at L49 etw R50 R60 R70 R80 TS9 ⊢
  have e9 := L49 _ _ e4 nofun
  have M9 : Mx H9 D rs (PP.map (rowM (fourW (onceF (gKnot on ms) [] (rngL on.length)) (seamsF ms on.length) (onceF (gPatch on ms) [] (hsAll on ms)) (onceF (gRim on ms) [] (hsRim on ms))) 0 0)) := by
    refine Mx.loose ⟨g4, by rw [List.length_map]; exact hl4, fun j r row h1 h2 => ?_, nd4, fun z => (ok4 _ z).2.1 rfl⟩ L49
    rw [List.getElem?_map] at h2
    obtain ⟨q0, _, rfl⟩ := Option.map_eq_some_iff.mp h2
    rw [(ok4 r (List.mem_of_getElem? h1)).2.2]
    rfl
  have rsF : ∀ r ∈ rs, H3 r = none := fun r hr => (ok4 r hr).1
  have rsL : ∀ r ∈ rs, ∃ ys, H9 r = some (.lst ys) := fun r hr => ⟨_, L49 _ _ (ok4 r hr).2.2 nofun⟩
  have hW : ∀ (k : Nat) (x : V), ([V.ref kr, V.ref sr, V.ref pr, V.ref rr] : List V)[k]? = some x → k < 4 ∧ ∃ wr, x = .ref wr ∧ Rows H9 wr (fourW (onceF (gKnot on ms) [] (rngL on.length)) (seamsF ms on.length) (onceF (gPatch on ms) [] (hsAll on ms)) (onceF (gRim on ms) [] (hsRim on ms)) k) ∧ WalksOk on.length (fourW (onceF (gKnot on ms) [] (rngL on.length)) (seamsF ms on.length) (onceF (gPatch on ms) [] (hsAll on ms)) (onceF (gRim on ms) [] (hsRim on ms)) k) := fun k x hx => by
    match k, hx with
    | 0, hx => cases hx; exact ⟨by decide, kr, rfl, R50, wo0⟩
    | 1, hx => cases hx; exact ⟨by decide, sr, rfl, R60, wo1⟩
    | 2, hx => cases hx; exact ⟨by decide, pr, rfl, R70, wo2⟩
    | 3, hx => cases hx; exact ⟨by decide, rr, rfl, R80, wo3⟩
    | k + 4, hx => cases hx
  have hfin : ∀ row, cntL (onceF (gKnot on ms) [] (rngL on.length)) (seamsF ms on.length) (onceF (gPatch on ms) [] (hsAll on ms)) (onceF (gRim on ms) [] (hsRim on ms)) row = (rowM (fourW (onceF (gKnot on ms) [] (rngL on.length)) (seamsF ms on.length) (onceF (gPatch on ms) [] (hsAll on ms)) (onceF (gRim on ms) [] (hsRim on ms))) 4 0 row) ++ [hndL (cAt (fourW (onceF (gKnot on ms) [] (rngL on.length)) (seamsF ms on.length) (onceF (gPatch on ms) [] (hsAll on ms)) (onceF (gRim on ms) [] (hsRim on ms))) 4 0 row 0) (cAt (fourW (onceF (gKnot on ms) [] (rngL on.length)) (seamsF ms on.length) (onceF (gPatch on ms) [] (hsAll on ms)) (onceF (gRim on ms) [] (hsRim on ms))) 4 0 row 1) (cAt (fourW (onceF (gKnot on ms) [] (rngL on.length)) (seamsF ms on.length) (onceF (gPatch on ms) [] (hsAll on ms)) (onceF (gRim on ms) [] (hsRim on ms))) 4 0 row 2) (cAt (fourW (onceF (gKnot on ms) [] (rngL on.length)) (seamsF ms on.length) (onceF (gPatch on ms) [] (hsAll on ms)) (onceF (gRim on ms) [] (hsRim on ms))) 4 0 row 3)] := fun row => rfl
  generalize fourW (onceF (gKnot on ms) [] (rngL on.length)) (seamsF ms on.length) (onceF (gPatch on ms) [] (hsAll on ms)) (onceF (gRim on ms) [] (hsRim on ms)) = W at M9 hW hfin
  clear R5 R6 R7 R8 R50 R60 R70 R80 l5 s6 l7 l8 l9 TS5 TS7 TS8 htw ok4 g4 wo0 wo1 wo2 wo3
  have keepT : ∀ (H' : Hp), (∀ c u, c ∉ rs → H9 c = some u → H' c = some u) → ∀ c xs, H9 c = some (.tup xs) → H' c = some (.tup xs) := fun H' h c xs e => h _ _ (fun z => by obtain ⟨ys, hy⟩ := rsL c z; rw [hy] at e; cases e) e
  refine ⟨tw, _, rfl, SqT.of etw, for_enumT (K := K) (a := tw) (xs := [V.ref kr, V.ref sr, V.ref pr, V.ref rr])
    (fun k σ Hx => ∃ (v7 v8 v9 : Option V), σ = [some (.ref p), some (.ref ap), some (.ref la), some (.ref D), u4, u5, u6, v7, v8, v9, none] ∧ (∀ c u, c ∉ rs → H9 c = some u → Hx c = some u) ∧ Mx Hx D rs (PP.map (rowM W k 0)))
    ⟨_, _, _, rfl, fun _ _ _ h => h, M9⟩ (fun k σ Hx _ ⟨_, _, _, _, z, _⟩ => SqT.of (keepT _ z _ _ etw)) ?_ ?_⟩
  · rintro k x Tt σ Hx hx ⟨v7, v8, v9, rfl, bx, Mk⟩ hTt
    obtain ⟨hk4, wr, rfl, Rk, wok⟩ := hW k x hx
    obtain ⟨rw_, b1, b2, b3⟩ := id Rk
    have sT := same_put hTt (.tup [.int (k : Nat), .ref wr])
    have eT := upd_same (H := Hx) (a := Tt) (o := .tup [.int (k : Nat), .ref wr])
    have Mk1 := Mk.loose sT.loose
    have bx1 : ∀ c u, c ∉ rs → H9 c = some u → upd Hx Tt (.tup [.int (k : Nat), .ref wr]) c = some u := fun c u h1 h2 => sT _ _ (bx c u h1 h2)
    generalize upd Hx Tt (.tup [.int (k : Nat), .ref wr]) = Hy at eT Mk1 bx1 ⊢
    refine ⟨Tt, _, rfl, SqT.of eT, rfl, _, _, rfl, _, _, rfl, rfl, ?_⟩
    refine ⟨_, rfl, wr, rfl, ⟨_, SqT.of (keepT _ bx1 _ _ b1)⟩, for_tup (K := K) (a := wr) (xs := rw_.map V.ref)
      (fun i σ Hz => ∃ (v9 : Option V), σ = [some (.ref p), some (.ref ap), some (.ref la), some (.ref D), u4, u5, u6, some (.int (k : Int)), some (.ref wr), v9, none] ∧ (∀ c u, c ∉ rs → H9 c = some u → Hz c = some u) ∧ Mx Hz D rs (PP.map (rowM W k i)))
      ⟨_, rfl, bx1, Mk1⟩ (fun i σ Hz _ ⟨_, _, z, _⟩ => SqT.of (keepT _ z _ _ b1)) ?_ ?_⟩
    · rintro i x σ Hz hx ⟨v9', rfl, bz, Mz⟩
      rw [List.getElem?_map] at hx
      obtain ⟨wa, hwa, rfl⟩ := Option.map_eq_some_iff.mp hx
      have hi : i < (W k).length := by rw [← b2]; exact (List.getElem?_eq_some_iff.mp hwa).1
      obtain ⟨w, hw⟩ : ∃ w, (W k)[i]? = some w := ⟨_, List.getElem?_eq_getElem hi⟩
      have ew := keepT _ bz _ _ (b3 i wa w hwa hw)
      obtain ⟨w0, wt, rfl, gw⟩ := wok w (List.mem_of_getElem? hw)
      obtain ⟨j, row, hj, hrow⟩ := hP.all w0 gw
      have lj : j < PP.length := (List.getElem?_eq_some_iff.mp hj).1
      have ela := bz _ _ nlar e9
      have ej := A3.to j row lj hj w0 hrow
      have ejI : atI (ls.map V.int) w0 = some (.int (j : Int)) := atN gw.1 (by rw [List.getElem?_map, ej]; rfl)
      obtain ⟨r, hr⟩ : ∃ r, rs[j]? = some r := ⟨_, List.getElem?_eq_getElem (by rw [hl4]; exact lj)⟩
      have erI : atI (rs.map V.ref) (j : Int) = some (.ref r) := atI_nat (by rw [List.getElem?_map, hr]; rfl)
      have hM : (PP.map (rowM W k i))[j]? = some (rowM W k i row) := by rw [List.getElem?_map, hj]; rfl
      have er := Mz.at_ j r _ hr hM
      have ekI : atI ((rowM W k i row).map V.int) (k : Int) = some (.int (cAt W k i row k)) := atI_nat (by rw [List.getElem?_map, rowM_get hk4]; rfl)
      refine ⟨_, rfl, _, rfl, _, rfl, wa, _, _, _, rfl, rfl, SqT.of ew, at0 _ _, la, _, _, _, rfl, rfl, SqL.of ela, ejI, D, _, _, _, rfl, rfl, SqL.of Mz.top, erI, ?_⟩
      refine ⟨_, rfl, r, _, _, _, rfl, rfl, SqL.of er, by omega, ekI, _, _, rfl, rfl, r, _, _, k, rfl, rfl, er, ?_, ?_⟩
      · unfold ixN
        rw [if_pos (by omega), if_pos (by rw [List.length_map]; show (k : Int) < 4; omega)]
        congr 1
      · rw [set_mapC]
        refine ⟨_, rfl, fun c u h1 h2 => ?_, ?_⟩
        · rw [upd_ne (fun z => h1 (by rw [z]; exact List.mem_of_getElem? hr))]; exact bz c u h1 h2
        · rw [← rows_step hP hk4 hw hj hrow]
          exact Mz.set hr _
    · rintro σ Hz ⟨v9', rfl, bz, Mz⟩
      rw [List.length_map, b2] at Mz
      refine ⟨_, _, _, rfl, bz, ?_⟩
      rw [show PP.map (rowM W (k + 1) 0) = PP.map (rowM W k (W k).length) from List.map_congr_left fun row _ => rowM_next W k row]
      exact Mz
  rintro σ Hx ⟨v7, v8, v9, rfl, bx, Mk⟩
  have Mk : Mx Hx D rs (PP.map (rowM W 4 0)) := Mk
  have LX : Loose H Hx := fun c u hu nt => by
    have h3 := (l1.trans L3) c u hu nt
    exact bx c u (fun z => by rw [rsF c z] at h3; cases h3) (L49 c u (s4 c u h3) nt)
  have TX : Tabs T Hx := fun t m => by
    obtain ⟨ps, k1, k2, k3⟩ := TS9 t m
    refine ⟨ps, bx _ _ (fun z => by obtain ⟨ys, hy⟩ := rsL _ z; rw [hy] at k1; cases k1) k1, k2, ?_⟩
    rcases k3 with k3 | ⟨c, k3, oc, vs, q, j1, j2, j3⟩
    · exact .inl k3
    · exact .inr ⟨c, k3, oc, vs, q, bx _ _ (fun z => by obtain ⟨ys, hy⟩ := rsL _ z; rw [hy] at j1; cases j1) j1, j2, j3⟩
  refine ⟨_, rfl, D, rfl, ⟨_, SqL.of Mk.top⟩, fun D2 hD2 => ?_⟩
  refine lc_list (K := K) (a := D) (xs := rs.map V.ref) (Pv := fun i H5 => Same Hx H5 ∧ ∃ ts : List Addr, H5 D2 = some (.lst (ts.map V.ref)) ∧ ts.length = i ∧ ∀ (j : Nat) (t : Addr) (row : List Int), ts[j]? = some t → PP[j]? = some row → t ≠ D2 ∧ H5 t = some (.tup ((rowM W 4 0 row ++ [hndL (cAt W 4 0 row 0) (cAt W 4 0 row 1) (cAt W 4 0 row 2) (cAt W 4 0 row 3)]).map V.int))) ⟨same_put hD2 _, [], upd_same, rfl, nofun⟩ (fun i H5 _ pv => SqL.of (pv.1 _ _ Mk.top)) ?_ ?_
  · rintro i x H5 hx ⟨s5, ts, g5, hl5, ok5⟩
    rw [List.getElem?_map] at hx
    obtain ⟨r, hr, rfl⟩ := Option.map_eq_some_iff.mp hx
    have hi : i < PP.length := by rw [← hl4]; exact (List.getElem?_eq_some_iff.mp hr).1
    obtain ⟨row, hrow⟩ : ∃ row, PP[i]? = some row := ⟨_, List.getElem?_eq_getElem hi⟩
    have er := Mk.at_ i r _ hr (show (PP.map (rowM W 4 0))[i]? = some (rowM W 4 0 row) by rw [List.getElem?_map, hrow]; rfl)
    refine ⟨rfl, yesT ?_⟩
    refine ⟨_, rfl, r, _, rfl, .inl (SqL.of (s5 _ _ er)), _, rfl, r, _, _, _, _, rfl, SqL.of (s5 _ _ er), (by show 5 ≤ sizeLine; decide), fun nt hnt => ⟨ts.map V.ref, up hnt g5, by rw [List.length_map, hl5, sizeLine_eq]; omega, ?_⟩⟩
    have nnD : nt ≠ D2 := fun z => by rw [z, g5] at hnt; cases hnt
    refine ⟨same_set (s5.trans (same_put hnt _)) hD2, ts ++ [nt], by rw [upd_same, List.map_append]; rfl, by rw [List.length_append, hl5]; rfl, fun j t row' h1 h2 => ?_⟩
    by_cases z : j < i
    · rw [List.getElem?_append_left (by rw [hl5]; exact z)] at h1
      obtain ⟨o1, o2⟩ := ok5 j t row' h1 h2
      exact ⟨o1, by rw [upd_ne o1]; exact up hnt o2⟩
    · have hj : j = i := by
        have := (List.getElem?_eq_some_iff.mp h1).1
        rw [List.length_append, hl5] at this
        have h0 : [nt].length = 1 := rfl
        omega
      subst hj
      rw [List.getElem?_append_right (by omega), hl5, Nat.sub_self] at h1
      obtain rfl := Option.some.inj h1
      rw [hrow] at h2
      obtain rfl := Option.some.inj h2
      exact ⟨nnD, by rw [upd_ne nnD]; exact upd_same⟩
  rintro H5 ⟨s5, ts, g5, hl5, ok5⟩
  rw [List.length_map, hl4] at hl5
  refine ⟨D2, _, rfl, .inl ⟨SqL.of g5, fun ro hro => ?_⟩⟩
  have s6 := s5.trans (same_put hro (.tup (ts.map V.ref)))
  refine q ro _ (LX.trans s6.loose) (TX.same s6) ⟨ts, upd_same, by rw [List.length_map]; exact hl5, fun j a row h1 h2 => ?_⟩
  rw [List.getElem?_map] at h2
  obtain ⟨pr, hp, rfl⟩ := Option.map_eq_some_iff.mp h2
  rw [hfin]
  exact up hro (ok5 j a pr h1 hp).2
end
end Hs
set_option Elab.async false
set_option linter.all false
set_option maxRecDepth 100000
set_option maxHeartbeats 1000000
namespace L2
open PySem PySem.Spec PyProof.Rows
section
variable {X : Cx} {K : PySem.W.Frag}
end
end L2
namespace Hs
open PySem L2
end Hs
set_option Elab.async false
set_option linter.all false
set_option maxRecDepth 100000
set_option maxHeartbeats 4000000
namespace Hs
open PySem L2
section
variable {P : Program} {w : World} {K : PySem.W.Frag} {mg : Str → Option Value} {base : Heap} {f : Addr} {fd : FuncData} {C : CsA} {S fH : Addr} {tM : Tok}
def gW (word : Str) (on : List Int) (ms : List (Option Int)) (h : Int) : List Int := if word = "knot" then knotL on ms h else if word = "patch" then patL on h else if word = "rim" then rimL on ms h else gSeam ms h
def okW (word : Str) (ms : List (Option Int)) (h : Int) : Bool := decide (word ≠ "rim") || decide (lkM ms h = none)
theorem gW_rng {word : Str} {on : List Int} {ms : List (Option Int)} (S : SkinOk on ms) {h : Int} (g : InR on.length h) : (∀ z ∈ gW word on ms h, InR on.length z) ∧ (gW word on ms h).length ≤ 401 := by
  have hle := S.le
  unfold gW
  split
  · have k := (S.knot g).2.2
    exact ⟨k.1, by have := k.2; omega⟩
  split
  · have k := (S.pat g).2.2
    exact ⟨k.1, by have := k.2; omega⟩
  split
  · have k := (S.rim g).2.2
    exact ⟨k.1, by have := k.2; omega⟩
  · have k := gSeam_rng S g
    exact ⟨k.1, by have := k.2; omega⟩
def walksF (word : Str) (on : List Int) (ms : List (Option Int)) : List (List Int) := onceF (gW word on ms) [] ((rngL on.length).filter (okW word ms))
theorem filt_all {word : Str} {ms : List (Option Int)} (h : word ≠ "rim") (l : List Int) : l.filter (okW word ms) = l := List.filter_eq_self.mpr fun x _ => by unfold okW; simp [h]
theorem wF_knot (on : List Int) (ms : List (Option Int)) : walksF "knot" on ms = onceF (gKnot on ms) [] (rngL on.length) := by
  unfold walksF
  rw [filt_all (by decide)]; rfl
theorem wF_patch (on : List Int) (ms : List (Option Int)) : walksF "patch" on ms = onceF (gPatch on ms) [] (hsAll on ms) := by
  unfold walksF
  rw [filt_all (by decide)]; rfl
theorem wF_rim (on : List Int) (ms : List (Option Int)) : walksF "rim" on ms = onceF (gRim on ms) [] (hsRim on ms) := rfl
theorem wF_seam {on : List Int} {ms : List (Option Int)} (S : SkinOk on ms) : walksF "seam" on ms = seamsF ms on.length := by
  unfold walksF
  rw [filt_all (by decide), ← seams_all S]; rfl
theorem trail_head {f : Int → Option Int} {h0 x : Int} {l : List Int} (t : Trail f h0 x l) : ∃ r, l = x :: r := by
  cases t with
  | last _ => exact ⟨[], rfl⟩
  | step _ _ _ => exact ⟨_, rfl⟩
theorem wF_ok {on : List Int} {ms : List (Option Int)} (S : SkinOk on ms) (word : Str) : WalksOk on.length (walksF word on ms) := fun w hw => by
  obtain ⟨h, hh, rfl⟩ := onceF_mem _ _ w hw
  have g : InR on.length h := rngL_mem.mp (List.mem_filter.mp hh).1
  have m := (gW_rng (word := word) S g).1
  have ne : ∃ a t, gW word on ms h = a :: t := by
    unfold gW
    split
    · obtain ⟨r, e⟩ := trail_head (S.knot g).1; exact ⟨_, r, e⟩
    split
    · obtain ⟨r, e⟩ := trail_head (S.pat g).1; exact ⟨_, r, e⟩
    split
    · obtain ⟨r, e⟩ := trail_head (S.rim g).1; exact ⟨_, r, e⟩
    · unfold gSeam
      split
      · exact ⟨_, _, rfl⟩
      · split <;> exact ⟨_, _, rfl⟩
  obtain ⟨a, t, e⟩ := ne
  exact ⟨a, t, e, m a (by rw [e]; exact List.mem_cons_self ..)⟩
theorem walks_ok {on : List Int} {ms : List (Option Int)} (S : SkinOk on ms) : WalksOk on.length (onceF (gKnot on ms) [] (rngL on.length)) ∧ WalksOk on.length (seamsF ms on.length) ∧ WalksOk on.length (onceF (gPatch on ms) [] (hsAll on ms)) ∧ WalksOk on.length (onceF (gRim on ms) [] (hsRim on ms)) :=
  ⟨by rw [← wF_knot]; exact wF_ok S _, by rw [← wF_seam S]; exact wF_ok S _, by rw [← wF_patch]; exact wF_ok S _, by rw [← wF_rim]; exact wF_ok S _⟩
end
end Hs
set_option Elab.async false
set_option linter.all false
set_option maxRecDepth 100000
set_option maxHeartbeats 1000000
namespace PySem
open PySem.Spec PyProof.Rows L2
abbrev IsZipF (h : Heap) (z TI TO : Addr) (f0 : Value) (f1 : Bool) : Prop :=
  h.get? z = some { cls := .type "zip", dict := none, data := .fields #[f0, .bool f1, .bool false, .ref TI, .ref TO], slots := #[] }
abbrev IsTupA (h : Heap) (T : Addr) (vs : Array Value) : Prop := h.get? T = some { cls := .type "tuple", data := .seq vs }
structure ZAp (z TI TO : Addr) (its ts : List Addr) : Prop where
  nd : (z :: TO :: TI :: its).Nodup
  off : ∀ t ∈ ts, t ∉ z :: TO :: its
  len : its.length = ts.length
  pos : 0 < its.length
  most : its.length ≤ 1000
def SZ (z TI TO : Addr) (its ts : List Addr) (i : Nat) (h : Heap) : Prop :=
  (∃ f0 f1, IsZipF h z TI TO f0 f1 ∧ (f0 = .none ∨ ∃ a : Addr, f0 = rawInt a)) ∧ IsTupA h TI (its.map Value.ref).toArray ∧ (∃ vals : Array Value, IsTupA h TO vals ∧ vals.size = its.length) ∧
  ∀ (j : Nat) (it t : Addr), its[j]? = some it → ts[j]? = some t → h.IsTupleIter it t i
def SZn (its ts : List Addr) (i n : Nat) (h : Heap) : Prop := ∀ (j : Nat) (it t : Addr), its[j]? = some it → ts[j]? = some t → h.IsTupleIter it t (if j < n then i + 1 else i)
theorem drop_cons {α : Type} {l : List α} {n : Nat} {x : α} {r : List α} (h : x :: r = l.drop n) : l[n]? = some x ∧ r = l.drop (n + 1) := by
  have e : (l.drop n)[0]? = some x := by rw [← h]; rfl
  rw [List.getElem?_drop, Nat.add_zero] at e
  refine ⟨e, ?_⟩
  have : (l.drop n).drop 1 = l.drop (n + 1) := by rw [List.drop_drop]
  rw [← this, ← h]; rfl
theorem wpAny_loadIfAlive {M : Model} {A : Around} {E : Value → Shared → Prop} {s : Shared} {a : Addr} {Q : Option Obj → Shared → Prop} (h : Q (s.heap.get? a) s) : wpAny M A (loadIfAlive a) Q E s := fun _ _ _ => h
section
variable {prog : Program} {w : World} {A : Around} {E : Value → Shared → Prop} {s : Shared}
theorem SZn.step {its ts : List Addr} {i n : Nat} {h h' : Heap} {it t : Addr} (nd : its.Nodup) (hi : its[n]? = some it) (ht : ts[n]? = some t) (S : SZn its ts i n h) (hn : h'.IsTupleIter it t (i + 1)) (hb : Heap.SameBut it h h') : SZn its ts i (n + 1) h' := by
  intro j it' t' h1 h2
  by_cases e : j = n
  · subst e
    rw [hi] at h1; rw [ht] at h2
    cases h1; cases h2
    rw [if_pos (by omega)]; exact hn
  · have ne : it' ≠ it := fun z => by
      subst z
      obtain ⟨l1, e1⟩ := List.getElem?_eq_some_iff.mp hi
      obtain ⟨l2, e2⟩ := List.getElem?_eq_some_iff.mp h1
      exact e ((List.getElem_inj (h₀ := l2) (h₁ := l1) nd).mp (e2.trans e1.symm))
    have := S j it' t' h1 h2
    have e2 : (if j < n + 1 then i + 1 else i) = (if j < n then i + 1 else i) := by
      by_cases q : j < n
      · rw [if_pos q, if_pos (by omega)]
      · rw [if_neg q, if_neg (by omega)]
    rw [e2]
    exact this.extBut hb.extBut ne
theorem owned_free {z TI TO : Addr} {f0 : Value} {f1 : Bool} {Q : Bool → Shared → Prop} (hz : IsZipF s.heap z TI TO f0 f1) (hf : f0 = .none ∨ ∃ a : Addr, f0 = rawInt a) (h1 : Q true s)
    (h2 : ∀ h', IsZipF h' z TI TO f0 true → Heap.SameBut z s.heap h' → Q false { s with heap := h' }) : wpAny (model prog w) A (Builtin.SmallTypes.ownedTupleIsFree (.ref z)) Q E s := by
  unfold Builtin.SmallTypes.ownedTupleIsFree
  rcases hf with rfl | ⟨a, rfl⟩
  · exact wpAny_bind (wpAny_field hz rfl (x := .none) rfl (wpAny_pure h1))
  · refine wpAny_bind (wpAny_field hz rfl (x := rawInt a) rfl ?_)
    show wpAny _ _ (loadIfAlive _ >>= _) _ _ _
    refine wpAny_bind (wpAny_loadIfAlive ?_)
    cases hg : s.heap.get? (Int.toNat (a : Nat)) with
    | none => simp only [Option.isNone_none, if_true]; exact wpAny_pure h1
    | some o =>
      simp only [Option.isNone_some, Bool.false_eq_true, if_false]
      show wpAny _ _ (field (.ref z) 1 >>= _) _ _ _
      refine wpAny_bind (wpAny_field hz rfl (x := .bool f1) rfl ?_)
      cases f1 with
      | true => exact wpAny_bind (wpAny_pure (wpAny_pure (h2 _ hz (Heap.SameBut.refl _ _))))
      | false => exact wpAny_bind (wpAny_setField_rec hz (by simp) fun h' hz' hs' => wpAny_pure (h2 h' hz' hs'))
theorem zipN_next_item {z TI TO : Addr} {its ts : List Addr} {i : Nat} {vs : List Value} {Q : Value → Shared → Prop} (D : ZAp z TI TO its ts) (S : SZ z TI TO its ts i s.heap)
    (hl : vs.length = its.length) (hc : ∀ (j : Nat) (t : Addr), ts[j]? = some t → ∃ xs, s.heap.IsTuple t xs ∧ xs[i]? = vs[j]?)
    (hQ : ∀ h', SZ z TI TO its ts (i + 1) h' → IsTupA h' s.heap.objs.size vs.toArray → h'.objs.size = s.heap.objs.size + 1 → (∀ c o, c ∉ z :: TO :: its → s.heap.get? c = some o → h'.get? c = some o) → Q (.ref s.heap.objs.size) { s with heap := h' }) :
    wpAny (model prog w) A (Builtin.«zip.__next__» ⟨[.ref z], []⟩) (fun fin s' => ∃ v, fin = .done (.ret v) ∧ Q v s') E s := by
  obtain ⟨⟨f0, f1, hz, hf⟩, hTI, ⟨vals, hTO, hvs⟩, hit⟩ := S
  have nd := D.nd
  simp only [List.nodup_cons, List.mem_cons, not_or] at nd
  obtain ⟨⟨zTO, zTI, zits⟩, ⟨TOTI, TOits⟩, TIits, ndits⟩ := nd
  have dlen := D.len
  have dmost := D.most
  have hof : ∀ t ∈ ts, t ≠ z ∧ t ≠ TO ∧ t ∉ its := fun t ht => by
    have := D.off t ht
    simp only [List.mem_cons, not_or] at this
    exact ⟨this.1, this.2.1, this.2.2⟩
  have draw : ∀ (n : Nat) (it : Addr) (s1 : Shared) (E1 : Value → Shared → Prop) (A1 : Around) {R : Value → Shared → Prop}, its[n]? = some it → SZn its ts i n s1.heap → (∀ c o, c ∉ z :: TO :: its → s.heap.get? c = some o → s1.heap.get? c = some o) →
      (∀ h' x, vs[n]? = some x → SZn its ts i (n + 1) h' → Heap.SameBut it s1.heap h' → R x { s1 with heap := h' }) → wpAny (model prog w) A1 (Builtin.SmallTypes.nextOf (.ref it)) R E1 s1 := by
    intro n it s1 E1 A1 R hi S1 k1 hR
    have ln : n < ts.length := by rw [← dlen]; exact (List.getElem?_eq_some_iff.mp hi).1
    obtain ⟨t, ht⟩ : ∃ t, ts[n]? = some t := ⟨_, List.getElem?_eq_getElem ln⟩
    obtain ⟨xs, ⟨o, ho, hoc⟩, hx⟩ := hc n t ht
    obtain ⟨x, hv⟩ : ∃ x, vs[n]? = some x := ⟨_, List.getElem?_eq_getElem (by omega)⟩
    obtain ⟨t1, t2, t3⟩ := hof t (List.mem_of_getElem? ht)
    have hI := S1 n it t hi ht
    rw [if_neg (by omega)] at hI
    refine nextOf_tup_item hI (items := xs) ⟨o, k1 t o (by simp [t1, t2, t3]) ho, hoc⟩ (hx.trans hv) fun h' hn hb => hR h' x hv (S1.step ndits hi ht hn hb) hb
  show wpAny _ _ (field (.ref z) 2 >>= _) _ _ _
  refine wpAny_bind (wpAny_field hz rfl (x := .bool false) rfl ?_)
  show wpAny _ _ (field (.ref z) 3 >>= _) _ _ _
  refine wpAny_bind (wpAny_field hz rfl (x := .ref TI) rfl ?_)
  refine wpAny_bind (wpAny_seqItems hTI rfl ?_)
  have hne : ¬ (((its.map Value.ref).toArray.isEmpty) = true) := by
    have := D.pos
    simp; intro e; subst e; simp at this
  simp only [hne, if_false]
  show wpAny _ _ (Builtin.SmallTypes.ownedTupleIsFree (.ref z) >>= _) _ _ _
  have S0 : SZn its ts i 0 s.heap := fun j it t h1 h2 => by rw [if_neg (by omega)]; exact hit j it t h1 h2
  refine wpAny_bind (owned_free hz hf ?_ fun h1 hz1 hs1 => ?_)
  ·
    simp only [if_true]
    refine wpAny_bind (wpAny_rule ?_)
    refine wpAny_bind (wpAny_field hz rfl (x := .ref TO) rfl ?_)
    refine wpAny_bind (wpAny_setField_rec hz (by simp) fun h₁ hz₁ hs₁ => ?_)
    replace hz₁ : IsZipF h₁ z TI TO .ellipsis f1 := hz₁
    refine wpAny_bind (wpAny_forIn_list _ (fun rest b s' => b = (none, ()) ∧ ∃ n h', rest = ((its.map Value.ref).toArray.toList.zipIdx).drop n ∧ s' = { s with heap := h' } ∧ IsZipF h' z TI TO .ellipsis f1 ∧ (∃ vals', IsTupA h' TO vals' ∧ vals'.size = its.length ∧ ∀ j, j < n → vals'[j]? = vs[j]?) ∧ SZn its ts i n h' ∧ h'.objs.size = s.heap.objs.size ∧ (∀ c o, c ∉ z :: TO :: its → s.heap.get? c = some o → h'.get? c = some o)) _ ?_ ?_ _ _ ⟨rfl, 0, h₁, rfl, rfl, hz₁, ⟨vals, hs₁.extBut _ _ (Ne.symm zTO) hTO, hvs, fun j hj => absurd hj (by omega)⟩, ?_, hs₁.1, fun c o hc e => hs₁.extBut _ _ (fun z' => hc (by simp [z'])) e⟩)
    · rintro x rest b s' ⟨rfl, n, h', hr, rfl, hz', ⟨vals', hT', hs', hv'⟩, S', hsz, hk⟩
      obtain ⟨hx, hr'⟩ := drop_cons hr
      obtain ⟨it, hi, rfl⟩ : ∃ it, its[n]? = some it ∧ x = (Value.ref it, n) := by
        rw [List.getElem?_zipIdx] at hx
        obtain ⟨v, h1, h2⟩ := Option.map_eq_some_iff.mp hx
        rw [List.toList_toArray, List.getElem?_map] at h1
        obtain ⟨it, h3, rfl⟩ := Option.map_eq_some_iff.mp h1
        exact ⟨it, h3, by rw [← h2]; simp⟩
      refine wpAny_bind (wpAny_onRaise ?_)
      show wpAny _ _ (Builtin.SmallTypes.nextOf (.ref it) >>= _) _ _ _
      refine wpAny_bind (draw n it _ _ _ hi S' hk fun h₂ x hv S₂ hs₂ => wpAny_pure ?_)
      have hits : it ∈ its := List.mem_of_getElem? hi
      have ne1 : TO ≠ it := fun e => TOits (e ▸ hits)
      have ne2 : z ≠ it := fun e => zits (e ▸ hits)
      have hT₂ : IsTupA h₂ TO vals' := hs₂.extBut _ _ ne1 hT'
      refine wpAny_bind (wpAny_seqItems hT₂ rfl ?_)
      have hle : vals'.size ≤ 1000 := by omega
      refine wpAny_bind (wpAny_updateSeq hT₂ rfl ?_ (by rw [sizeLine_eq]; omega) (by rw [Array.size_setIfInBounds, sizeLine_eq]; omega))
      have e3 := Heap.get?_update_self (Obj.mapSeq (·.setIfInBounds n x)) hT₂ rfl
      have b3 : Heap.SameBut TO h₂ (h₂.update TO (Obj.mapSeq (·.setIfInBounds n x))) := Heap.SameBut.update ..
      refine wpAny_bind (wpAny_letGo (wpAny_pure ⟨rfl, n + 1, _, hr', rfl, b3.extBut _ _ zTO (hs₂.extBut _ _ ne2 hz'), ⟨vals'.setIfInBounds n x, ?_, by rw [Array.size_setIfInBounds]; exact hs', fun j hj => ?_⟩, ?_, by rw [b3.1, hs₂.1]; exact hsz, fun c o hc e => ?_⟩))
      · simpa [IsTupA, Obj.mapSeq] using e3
      · by_cases q : j = n
        · subst q
          rw [Array.getElem?_setIfInBounds_self_of_lt (by have := (List.getElem?_eq_some_iff.mp hi).1; omega), hv]
        · rw [Array.getElem?_setIfInBounds_ne (fun e => q e.symm)]
          exact hv' j (by omega)
      · intro j it' t' h1 h2
        have := S₂ j it' t' h1 h2
        refine this.extBut b3.extBut (fun e => TOits (by rw [← e]; exact List.mem_of_getElem? h1))
      · have c1 : c ≠ TO := fun e => hc (by simp [e])
        have c2 : c ≠ it := fun e => hc (by simp [e, hits])
        exact b3.extBut _ _ c1 (hs₂.extBut _ _ c2 (hk c o hc e))
    · rintro b s' ⟨rfl, n, h', hr, rfl, hz', ⟨vals', hT', hs', hv'⟩, S', hsz, hk⟩
      have hn : its.length ≤ n := by
        have := congrArg List.length hr
        simp at this
        omega
      have ev : vals' = vs.toArray := by
        apply Array.ext_getElem?
        intro j
        by_cases q : j < n
        · rw [hv' j q]; simp
        · rw [Array.getElem?_eq_none (by omega), Array.getElem?_eq_none (by rw [List.size_toArray]; omega)]
      subst ev
      refine wpAny_bind (wpAny_seqItems hT' rfl ?_)
      refine wpAny_bind (wpAny_newTuple ?_ (by rw [List.toList_toArray, sizeLine_eq]; omega))
      have hzlt : z < h'.objs.size := Heap.lt_size hz'
      have hz₆ : IsZipF (h'.push { cls := .type "tuple", data := .seq vs.toArray.toList.toArray }) z TI TO .ellipsis f1 := Heap.get?_push_of_some _ hz'
      show wpAny _ _ (Builtin.SmallTypes.ownedTupleHandOut (.ref z) (.ref h'.objs.size) >>= _) _ _ _
      refine wpAny_bind ?_
      unfold Builtin.SmallTypes.ownedTupleHandOut
      refine wpAny_bind (wpAny_setField_rec hz₆ (by simp) fun h₇ hz₇ hs₇ => ?_)
      replace hz₇ : IsZipF h₇ z TI TO (rawInt h'.objs.size) f1 := hz₇
      refine wpAny_setField_rec hz₇ (by simp) fun h₈ hz₈ hs₈ => ?_
      replace hz₈ : IsZipF h₈ z TI TO (rawInt h'.objs.size) false := hz₈
      have up : ∀ c o, c ≠ z → h'.get? c = some o → h₈.get? c = some o := fun c o c1 e => hs₈.extBut _ _ c1 (hs₇.extBut _ _ c1 (Heap.get?_push_of_some _ e))
      have hT₈ : IsTupA h₈ h'.objs.size vs.toArray := hs₈.extBut _ _ (Nat.ne_of_gt hzlt) (hs₇.extBut _ _ (Nat.ne_of_gt hzlt) (by rw [List.toList_toArray]; exact Heap.get?_push_size _ rfl))
      have hz8 : h₈.objs.size = h'.objs.size + 1 := by rw [hs₈.1, hs₇.1, Heap.size_push]
      rw [hsz] at hz₈ hT₈ hz8
      refine wpAny_pure ⟨_, rfl, ?_⟩
      show Q (.ref h'.objs.size) _
      rw [hsz]
      refine hQ h₈ ⟨⟨_, _, hz₈, .inr ⟨_, rfl⟩⟩, up _ _ (Ne.symm zTI) (hk TI _ (by simp [Ne.symm zTI, Ne.symm TOTI, TIits]) hTI), ⟨_, up _ _ (Ne.symm zTO) hT', hs'⟩, fun j it t h1 h2 => ?_⟩ hT₈ hz8 fun c o hc e => up c o (fun q => hc (by simp [q])) (hk c o hc e)
      have := S' j it t h1 h2
      rw [if_pos (by have := (List.getElem?_eq_some_iff.mp h1).1; omega)] at this
      exact this.at fun o e => up _ o (fun q => zits (by rw [← q]; exact List.mem_of_getElem? h1)) e
    · intro j it t h1 h2
      exact (S0 j it t h1 h2).extBut hs₁.extBut (fun q => zits (by rw [← q]; exact List.mem_of_getElem? h1))
  · simp only [Bool.false_eq_true, if_false]
    refine wpAny_bind (wpAny_forIn_array' _ (fun rest b s' => ∃ n h', b = (none, (vs.take n).toArray) ∧ rest = (its.map Value.ref).drop n ∧ s' = { s with heap := h' } ∧ IsZipF h' z TI TO f0 true ∧ SZn its ts i n h' ∧ h'.objs.size = s.heap.objs.size ∧ (∀ c o, c ∉ z :: TO :: its → s.heap.get? c = some o → h'.get? c = some o) ∧ IsTupA h' TO vals) _ ?_ ?_ _ _ ⟨0, h1, rfl, by rw [List.toList_toArray]; rfl, rfl, hz1, ?_, hs1.1, fun c o hc e => hs1.extBut _ _ (fun q => hc (by simp [q])) e, hs1.extBut _ _ (Ne.symm zTO) hTO⟩)
    · rintro x rest b s' ⟨n, h', rfl, hr, rfl, hz', S', hsz, hk, hT'⟩
      obtain ⟨hx, hr'⟩ := drop_cons hr
      obtain ⟨it, hi, rfl⟩ : ∃ it, its[n]? = some it ∧ x = Value.ref it := by
        rw [List.getElem?_map] at hx
        obtain ⟨it, h3, rfl⟩ := Option.map_eq_some_iff.mp hx
        exact ⟨it, h3, rfl⟩
      refine wpAny_bind (wpAny_holding ?_)
      show wpAny _ _ (Builtin.SmallTypes.nextOf (.ref it) >>= _) _ _ _
      refine wpAny_bind (draw n it _ _ _ hi S' hk fun h₂ x hv S₂ hs₂ => wpAny_pure ?_)
      have hits : it ∈ its := List.mem_of_getElem? hi
      have ne1 : TO ≠ it := fun e => TOits (e ▸ hits)
      have ne2 : z ≠ it := fun e => zits (e ▸ hits)
      refine wpAny_pure ⟨n + 1, h₂, ?_, hr', rfl, hs₂.extBut _ _ ne2 hz', S₂, hs₂.1.trans hsz, fun c o hc e => hs₂.extBut _ _ (fun e => hc (by simp [e, hits])) (hk c o hc e), hs₂.extBut _ _ ne1 hT'⟩
      rw [List.take_succ, hv]
      simp
    · rintro b s' ⟨n, h', rfl, hr, rfl, hz', S', hsz, hk, hT'⟩
      have hn : its.length ≤ n := by
        have := congrArg List.length hr
        simp at this
        omega
      rw [List.take_of_length_le (by omega)]
      refine wpAny_bind (wpAny_newTuple ?_ (by rw [List.toList_toArray, sizeLine_eq]; omega))
      refine wpAny_pure ⟨_, rfl, ?_⟩
      show Q (.ref h'.objs.size) _
      have up : ∀ c o, h'.get? c = some o → (h'.push { cls := .type "tuple", data := .seq vs.toArray.toList.toArray }).get? c = some o := fun c o e => Heap.get?_push_of_some _ e
      rw [hsz]
      refine hQ _ ⟨⟨f0, true, up _ _ hz', hf⟩, up _ _ (hk TI _ (by simp [Ne.symm zTI, Ne.symm TOTI, TIits]) hTI), ⟨_, up _ _ hT', hvs⟩, fun j it t h1 h2 => ?_⟩ (by rw [← hsz]; exact Heap.get?_push_size _ rfl) (by rw [Heap.size_push, hsz]) fun c o hc e => up c o (hk c o hc e)
      have := S' j it t h1 h2
      rw [if_pos (by have := (List.getElem?_eq_some_iff.mp h1).1; omega)] at this
      exact this.at fun o e => up _ o e
    · intro j it t h1 h2
      exact (S0 j it t h1 h2).extBut hs1.extBut (fun q => zits (by rw [← q]; exact List.mem_of_getElem? h1))
theorem zipN_next_end {z TI TO : Addr} {its ts : List Addr} {i : Nat} {t : Addr} {xs : Array Value} {Q : Fin → Shared → Prop} (hh : A.handled = none) (D : ZAp z TI TO its ts) (S : SZ z TI TO its ts i s.heap)
    (h0 : ts[0]? = some t) (hx : s.heap.IsTuple t xs) (hend : xs[i]? = none)
    (hE : ∀ h' e, (∀ c o, c ∉ z :: TO :: its → s.heap.get? c = some o → h'.get? c = some o) → (∃ o, h'.get? e = some o ∧ o.cls = .type "StopIteration") → E (.ref e) { s with heap := h' }) :
    wpAny (model prog w) A (Builtin.«zip.__next__» ⟨[.ref z], []⟩) Q E s := by
  obtain ⟨⟨f0, f1, hz, hf⟩, hTI, ⟨vals, hTO, hvs⟩, hit⟩ := S
  have nd := D.nd
  simp only [List.nodup_cons, List.mem_cons, not_or] at nd
  obtain ⟨⟨zTO, zTI, zits⟩, ⟨TOTI, TOits⟩, TIits, ndits⟩ := nd
  have dlen := D.len
  have dpos := D.pos
  obtain ⟨t1, t2, t3⟩ : t ≠ z ∧ t ≠ TO ∧ t ∉ its := by
    have := D.off t (List.mem_of_getElem? h0)
    simp only [List.mem_cons, not_or] at this
    exact this
  obtain ⟨it, rest, rfl⟩ : ∃ it rest, its = it :: rest := by
    cases its with
    | nil => simp at dpos
    | cons a b => exact ⟨a, b, rfl⟩
  have hI := hit 0 it t rfl h0
  have zit : z ≠ it := fun e => zits (by simp [e])
  have tit : t ≠ it := fun e => t3 (by simp [e])
  show wpAny _ _ (field (.ref z) 2 >>= _) _ _ _
  refine wpAny_bind (wpAny_field hz rfl (x := .bool false) rfl ?_)
  show wpAny _ _ (field (.ref z) 3 >>= _) _ _ _
  refine wpAny_bind (wpAny_field hz rfl (x := .ref TI) rfl ?_)
  refine wpAny_bind (wpAny_seqItems hTI rfl ?_)
  have hne : ¬ ((((it :: rest).map Value.ref).toArray.isEmpty) = true) := by simp
  simp only [hne, if_false]
  show wpAny _ _ (Builtin.SmallTypes.ownedTupleIsFree (.ref z) >>= _) _ _ _
  refine wpAny_bind (owned_free hz hf ?_ fun h1 hz1 hs1 => ?_)
  · simp only [if_true]
    refine wpAny_bind (wpAny_rule ?_)
    refine wpAny_bind (wpAny_field hz rfl (x := .ref TO) rfl ?_)
    refine wpAny_bind (wpAny_setField_rec hz (by simp) fun h₁ hz₁ hs₁ => ?_)
    replace hz₁ : IsZipF h₁ z TI TO .ellipsis f1 := hz₁
    refine wpAny_bind ?_
    rw [List.map_cons, List.zipIdx_cons, List.forIn_cons]
    refine wpAny_bind (wpAny_bind (wpAny_onRaise ?_))
    show wpAny _ _ (Builtin.SmallTypes.nextOf (.ref it) >>= _) _ _ _
    refine wpAny_bind (nextOf_tup_end hh (hI.extBut hs₁.extBut (Ne.symm zit)) (hx.extBut hs₁.extBut t1) hend fun h₂ e hs₂ he => ?_)
    obtain ⟨oe, hoe, hce⟩ := he
    have hz₂ : IsZipF h₂ z TI TO .ellipsis f1 := hs₂ _ _ zit hz₁
    have hez : e ≠ z := fun x => by subst x; rw [hz₂] at hoe; cases hoe; simp at hce
    refine wpAny_setField_rec hz₂ (by simp) fun h₃ _ hs₃ => hE h₃ e (fun c o hc x => hs₃.extBut _ _ (fun q => hc (by simp [q])) (hs₂ _ _ (fun q => hc (by simp [q])) (hs₁.extBut _ _ (fun q => hc (by simp [q])) x))) ⟨oe, hs₃.extBut _ _ hez hoe, hce⟩
  · simp only [Bool.false_eq_true, if_false]
    refine wpAny_bind ?_
    rw [← Array.forIn_toList, List.toList_toArray, List.map_cons, List.forIn_cons]
    refine wpAny_bind (wpAny_bind (wpAny_holding ?_))
    show wpAny _ _ (Builtin.SmallTypes.nextOf (.ref it) >>= _) _ _ _
    refine wpAny_bind (nextOf_tup_end hh (hI.extBut hs1.extBut (Ne.symm zit)) (hx.extBut hs1.extBut t1) hend fun h₂ e hs₂ he => ?_)
    exact hE h₂ e (fun c o hc x => hs₂ _ _ (fun q => hc (by simp [q])) (hs1.extBut _ _ (fun q => hc (by simp [q])) x)) he
theorem wpAny_pyIter_zipF {z TI TO : Addr} {f0 : Value} {f1 : Bool} {Q : Value → Shared → Prop} (hz : IsZipF s.heap z TI TO f0 f1) (h : Q (.ref z) s) : wpAny (model prog w) A (pyIter (.ref z)) Q E s := by
  have hT : s.TypeIs (.ref z) "zip" := ⟨_, hz, rfl⟩
  refine wpAny_pyIter_slot hT F.slot_zip_iter (wpAny_call_entry F.slot_zip_iter hT F.entry_zip_iter ?_ (F.args_zip_iter_1 _))
  show wpAny _ _ (ret (.ref z)) _ _ s
  exact wpAny_pure ⟨_, rfl, "zip", _, hT, F.slot_zip_next.lookup, h⟩
def itsOf (n0 : Nat) (k : Nat) : List Addr := (List.range k).map (n0 + ·)
theorem zipN_new {ts : List Addr} (hk : ts.length ≤ 1000) :
    Meets (Builtin.«zip.__new__» ⟨.type "zip" :: ts.map Value.ref, []⟩) (fun _ R s => (∀ (j : Nat) (t : Addr), ts[j]? = some t → ∃ xs, s.heap.IsTuple t xs) ∧
      ∀ h' : Heap, IsZipF h' (s.heap.objs.size + ts.length + 2) (s.heap.objs.size + ts.length) (s.heap.objs.size + ts.length + 1) .none false → IsTupA h' (s.heap.objs.size + ts.length) ((itsOf s.heap.objs.size ts.length).map Value.ref).toArray →
        (∃ vals, IsTupA h' (s.heap.objs.size + ts.length + 1) vals ∧ vals.size = ts.length) → (∀ (j : Nat) (t : Addr), ts[j]? = some t → h'.IsTupleIter (s.heap.objs.size + j) t 0) → (∀ c o, s.heap.get? c = some o → h'.get? c = some o) →
        R (.ok (.ret (.ref (s.heap.objs.size + ts.length + 2)))) { s with heap := h' }) :=
  .of_wp fun prog w A R s h => by
    obtain ⟨ht, hR⟩ := h
    have hsub := sub_zip
    unfold Builtin.«zip.__new__»
    have nc : ∀ {Q : Value × List Value → Shared → Prop} {s : Shared} {E : Value → Shared → Prop}, Q (.type "zip", ts.map Value.ref) s → wpAny (model prog w) A.in1 (Builtin.SmallTypes.newClass "zip" ⟨.type "zip" :: ts.map Value.ref, []⟩) Q E s := by
      intro Q s E q
      obtain ⟨hp, g, d, tk, os⟩ := s
      unfold Builtin.SmallTypes.newClass
      wp_walk
      exact q
    refine wpAny_bind (nc ?_)
    dsimp only
    rw [if_neg (by simp)]
    unfold Builtin.SmallTypes.iterAll
    have hgt : ∀ {h : Heap} {c : Addr} {o : Obj}, h.get? c = some o → c < h.objs.size := fun e => Heap.lt_size e
    refine wpAny_bind ?_
    dsimp only
    refine wpAny_bind (wpAny_forIn_list _ (fun rest b s' => ∃ n h', n ≤ ts.length ∧ rest = (ts.map Value.ref).drop n ∧ b = ((itsOf s.heap.objs.size n).map Value.ref).toArray ∧ s' = { s with heap := h' } ∧ h'.objs.size = s.heap.objs.size + n ∧ (∀ c o, s.heap.get? c = some o → h'.get? c = some o) ∧
      ∀ (j : Nat) (t : Addr), j < n → ts[j]? = some t → h'.IsTupleIter (s.heap.objs.size + j) t 0) _ ?_ ?_ _ _ ⟨0, s.heap, Nat.zero_le _, rfl, rfl, rfl, rfl, fun _ _ e => e, fun j t h => absurd h (by omega)⟩)
    · rintro x rest b s' ⟨n, h', hn, hr, rfl, rfl, hsz, hkp, hi⟩
      obtain ⟨hx, hr'⟩ := drop_cons hr
      obtain ⟨t, htt, rfl⟩ : ∃ t, ts[n]? = some t ∧ x = Value.ref t := by
        rw [List.getElem?_map] at hx
        obtain ⟨it, h3, rfl⟩ := Option.map_eq_some_iff.mp hx
        exact ⟨it, h3, rfl⟩
      obtain ⟨xs, o, ho, hoc⟩ := ht n t htt
      refine wpAny_bind (wpAny_holding (wpAny_pyIter_tuple ⟨o, hkp _ _ ho, hoc⟩ (wpAny_pure ⟨n + 1, _, (List.getElem?_eq_some_iff.mp htt).1, hr', ?_, rfl, by rw [Heap.size_push, hsz]; rfl, fun c o e => Heap.get?_push_of_some _ (hkp c o e), fun j t' hj e => ?_⟩)))
      · show (((itsOf s.heap.objs.size n).map Value.ref).toArray.push (.ref h'.objs.size)) = _
        rw [hsz]; unfold itsOf; rw [List.range_succ]; simp
      · by_cases q : j = n
        · subst q
          rw [htt] at e; cases e
          rw [← hsz]
          exact ⟨_, Heap.get?_push_size _ rfl, rfl, rfl⟩
        · exact (hi j t' (by omega) e).at fun o e => Heap.get?_push_of_some _ e
    · rintro b s' ⟨n, h', hn, hr, rfl, rfl, hsz, hkp, hi⟩
      have en : n = ts.length := by
        have := congrArg List.length hr
        simp at this
        omega
      subst en
      have li : (itsOf s.heap.objs.size ts.length).length = ts.length := by simp [itsOf]
      refine wpAny_pure ?_
      rw [List.toList_toArray]
      refine wpAny_bind (wpAny_newTuple ?_ (by rw [List.length_map, li, sizeLine_eq]; omega))
      refine wpAny_bind (wpAny_newTuple ?_ (by rw [List.length_map, List.length_map, li, sizeLine_eq]; omega))
      have z1 : (h'.push { cls := .type "tuple", data := .seq ((itsOf s.heap.objs.size ts.length).map Value.ref).toArray }).objs.size = s.heap.objs.size + ts.length + 1 := by rw [Heap.size_push, hsz]
      have g1 : (h'.push { cls := .type "tuple", data := .seq ((itsOf s.heap.objs.size ts.length).map Value.ref).toArray }).get? (s.heap.objs.size + ts.length) = some { cls := .type "tuple", data := .seq ((itsOf s.heap.objs.size ts.length).map Value.ref).toArray } := by
        rw [← hsz]; exact Heap.get?_push_size _ rfl
      have k1 : ∀ c o, h'.get? c = some o → (h'.push { cls := .type "tuple", data := .seq ((itsOf s.heap.objs.size ts.length).map Value.ref).toArray }).get? c = some o := fun c o e => Heap.get?_push_of_some _ e
      show wpAny _ _ _ _ _ { s with heap := (h'.push { cls := .type "tuple", data := .seq ((itsOf s.heap.objs.size ts.length).map Value.ref).toArray }).push { cls := .type "tuple", data := .seq (((itsOf s.heap.objs.size ts.length).map Value.ref).map fun _ => Value.none).toArray } }
      show wpAny _ _ (Builtin.SmallTypes.newRecord (Value.type "zip") (Builtin.SmallTypes.ownedTupleFields ++ [Value.bool false, .ref h'.objs.size, .ref (h'.push { cls := .type "tuple", data := .seq ((itsOf s.heap.objs.size ts.length).map Value.ref).toArray }).objs.size]) >>= _) _ _ _
      rw [z1, hsz]
      generalize h'.push { cls := .type "tuple", data := .seq ((itsOf s.heap.objs.size ts.length).map Value.ref).toArray } = h2 at z1 g1 k1 ⊢
      have z2 : (h2.push { cls := .type "tuple", data := .seq (((itsOf s.heap.objs.size ts.length).map Value.ref).map fun _ => Value.none).toArray }).objs.size = s.heap.objs.size + ts.length + 2 := by rw [Heap.size_push, z1]
      have g2 : (h2.push { cls := .type "tuple", data := .seq (((itsOf s.heap.objs.size ts.length).map Value.ref).map fun _ => Value.none).toArray }).get? (s.heap.objs.size + ts.length + 1) = some { cls := .type "tuple", data := .seq (((itsOf s.heap.objs.size ts.length).map Value.ref).map fun _ => Value.none).toArray } := by
        rw [← z1]; exact Heap.get?_push_size _ rfl
      have k2 : ∀ c o, h2.get? c = some o → (h2.push { cls := .type "tuple", data := .seq (((itsOf s.heap.objs.size ts.length).map Value.ref).map fun _ => Value.none).toArray }).get? c = some o := fun c o e => Heap.get?_push_of_some _ e
      generalize h2.push { cls := .type "tuple", data := .seq (((itsOf s.heap.objs.size ts.length).map Value.ref).map fun _ => Value.none).toArray } = h3 at z2 g2 k2 ⊢
      refine wpAny_bind ?_
      show wpAny _ _ (newObj (.type "zip") (.fields #[.none, .bool false, .bool false, .ref (s.heap.objs.size + ts.length), .ref (s.heap.objs.size + ts.length + 1)])) _ _ _
      refine wpAny_newObj_type (wpAny_pure ⟨_, rfl, ?_⟩) (by show 5 ≤ _; rw [sizeLine_eq]; omega)
      show R (.ok (.ret (.ref h3.objs.size))) _
      rw [z2]
      refine hR _ (by rw [← z2]; exact Heap.get?_push_size _ rfl) (Heap.get?_push_of_some _ (k2 _ _ g1)) ⟨_, Heap.get?_push_of_some _ g2, by simp [itsOf]⟩ (fun j t e => ?_) fun c o e => Heap.get?_push_of_some _ (k2 _ _ (k1 _ _ (hkp c o e)))
      exact (hi j t (List.getElem?_eq_some_iff.mp e).1 e).at fun o e => Heap.get?_push_of_some _ (k2 _ _ (k1 _ _ e))
theorem typeCall_zip_n (as : List Value) : checkTypeCall "zip" ⟨as, []⟩ = pure () := by kernel_rfl
theorem newCall_zip_n (a : Value) (as : List Value) : checkBuiltinCall "zip.__new__" ⟨.type "zip" :: a :: as, []⟩ = pure () := by kernel_rfl
theorem args_object_init_n (a : Value) (as : List Value) : argsOk "object.__init__" ⟨a :: as, []⟩ := by
  unfold argsOk; rw [signature?_of (id := "object.__init__") (n := ['_', '_', 't', 'i', 'n', 'i', '_', '_']) (o := ['t', 'c', 'e', 'j', 'b', 'o']) (by kernel_rfl) F.owner_object]; kernel_rfl
theorem call_zip_n {ts : List Addr} {Q : Value → Shared → Prop} (hk : ts.length ≤ 1000) (hp : 0 < ts.length) (ht : ∀ (j : Nat) (t : Addr), ts[j]? = some t → ∃ xs, s.heap.IsTuple t xs)
    (h : ∀ h' : Heap, IsZipF h' (s.heap.objs.size + ts.length + 2) (s.heap.objs.size + ts.length) (s.heap.objs.size + ts.length + 1) .none false → IsTupA h' (s.heap.objs.size + ts.length) ((itsOf s.heap.objs.size ts.length).map Value.ref).toArray →
      (∃ vals, IsTupA h' (s.heap.objs.size + ts.length + 1) vals ∧ vals.size = ts.length) → (∀ (j : Nat) (t : Addr), ts[j]? = some t → h'.IsTupleIter (s.heap.objs.size + j) t 0) → (∀ c o, s.heap.get? c = some o → h'.get? c = some o) →
      Q (.ref (s.heap.objs.size + ts.length + 2)) { s with heap := h' }) : wpAny (model prog w) A (call (.type "zip") (ts.map Value.ref)) Q E s := by
  have hnc : checkBuiltinCall "zip.__new__" ⟨.type "zip" :: ts.map Value.ref, []⟩ = pure () := by
    cases ts with
    | nil => simp at hp
    | cons a b => exact newCall_zip_n _ _
  refine callType_new F.called_zip (by decide) (typeCall_zip_n _) hnc (fun obj => args_object_init_n obj _) F.entry_zip_new (zipN_new hk) ⟨ht, fun h' a1 a2 a3 a4 a5 => ?_⟩
  exact ⟨⟨_, a1, rfl⟩, h h' a1 a2 a3 a4 a5⟩
theorem zap_new {n0 : Nat} {ts : List Nat} (hk : ts.length ≤ 1000) (hp : 0 < ts.length) (hlt : ∀ t ∈ ts, t < n0) : ZAp (n0 + ts.length + 2) (n0 + ts.length) (n0 + ts.length + 1) (itsOf n0 ts.length) ts := by
  have mem : ∀ x : Nat, x ∈ itsOf n0 ts.length ↔ n0 ≤ x ∧ x < n0 + ts.length := fun x => by
    unfold itsOf
    simp only [List.mem_map, List.mem_range]
    constructor
    · rintro ⟨a, h, rfl⟩; omega
    · rintro ⟨h1, h2⟩; exact ⟨x - n0, by omega, by omega⟩
  have li : (itsOf n0 ts.length).length = ts.length := by simp [itsOf]
  refine ⟨?_, fun t ht => ?_, li, by omega, by omega⟩
  · simp only [List.nodup_cons, List.mem_cons, not_or]
    refine ⟨⟨Nat.ne_of_gt (by omega), Nat.ne_of_gt (by omega), fun h => ?_⟩, ⟨Nat.ne_of_gt (by omega), fun h => ?_⟩, fun h => ?_, ?_⟩
    · have := (mem _).mp h; omega
    · have := (mem _).mp h; omega
    · have := (mem _).mp h; omega
    · unfold itsOf
      exact List.Pairwise.map _ (fun a b h => by simpa using h) List.nodup_range
  · have := hlt t ht
    simp only [List.mem_cons, not_or]
    refine ⟨Nat.ne_of_lt (by omega), Nat.ne_of_lt (by omega), fun h => ?_⟩
    have := (mem _).mp h; omega
theorem zipN_pyNext_item {z TI TO : Addr} {its ts : List Addr} {i : Nat} {vs : List Value} {Q : Option Value → Shared → Prop} (D : ZAp z TI TO its ts) (S : SZ z TI TO its ts i s.heap)
    (hl : vs.length = its.length) (hc : ∀ (j : Nat) (t : Addr), ts[j]? = some t → ∃ xs, s.heap.IsTuple t xs ∧ xs[i]? = vs[j]?)
    (hQ : ∀ h', SZ z TI TO its ts (i + 1) h' → IsTupA h' s.heap.objs.size vs.toArray → h'.objs.size = s.heap.objs.size + 1 → (∀ c o, c ∉ z :: TO :: its → s.heap.get? c = some o → h'.get? c = some o) → Q (some (.ref s.heap.objs.size)) { s with heap := h' }) :
    wpAny (model prog w) A (pyNext (.ref z)) Q E s := by
  have hT : s.TypeIs (.ref z) "zip" := by
    obtain ⟨⟨_, _, hz, _⟩, _⟩ := S
    exact ⟨_, hz, rfl⟩
  unfold pyNext
  exact wpAny_bind (wpAny_attempt (wpAny_callSpecial?_slot (name := Str.ofString "__next__") hT F.slot_zip_next
    (wpAny_call_entry F.slot_zip_next hT F.entry_zip_next (zipN_next_item D S hl hc fun h' a1 a2 a3 a4 => wpAny_pure (hQ h' a1 a2 a3 a4)) (F.args_zip_next_1 _))))
theorem zipN_pyNext_end {z TI TO : Addr} {its ts : List Addr} {i : Nat} {t : Addr} {xs : Array Value} {Q : Option Value → Shared → Prop} (hh : A.handled = none) (D : ZAp z TI TO its ts) (S : SZ z TI TO its ts i s.heap)
    (h0 : ts[0]? = some t) (hx : s.heap.IsTuple t xs) (hend : xs[i]? = none)
    (hQ : ∀ h', (∀ c o, c ∉ z :: TO :: its → s.heap.get? c = some o → h'.get? c = some o) → Q none { s with heap := h' }) : wpAny (model prog w) A (pyNext (.ref z)) Q E s := by
  have hT : s.TypeIs (.ref z) "zip" := by
    obtain ⟨⟨_, _, hz, _⟩, _⟩ := S
    exact ⟨_, hz, rfl⟩
  unfold pyNext
  refine wpAny_bind (wpAny_attempt (wpAny_callSpecial?_slot (name := Str.ofString "__next__") hT F.slot_zip_next
    (wpAny_call_entry F.slot_zip_next hT F.entry_zip_next (zipN_next_end hh D S h0 hx hend fun h' e hk he => ?_) (F.args_zip_next_1 _))))
  obtain ⟨o, ho, hc⟩ := he
  refine wpAny_bind (wpAny_isInstance (T := "StopIteration") (b := true) ⟨o, ho, hc⟩ isSubtype_stop ?_)
  exact wpAny_pure (hQ _ hk)
end
end PySem
namespace L2
open PySem PySem.Spec PyProof.Rows
def ItzS (K : PySem.W.Frag) (rs : List Addr) (cols : List (List V)) (m : Nat) : It :=
  ⟨fun i H => i < m ∧ ∀ (j : Nat) (r : Addr) (xs : List V), rs[j]? = some r → cols[j]? = some xs → SqT K H r xs,
    fun i H v H' => ∃ T, v = .ref T ∧ H T = none ∧ H' = upd H T (.tup (cols.map fun xs => xs.getD i .non)),
    fun i H => m ≤ i ∧ ∀ (j : Nat) (r : Addr) (xs : List V), rs[j]? = some r → cols[j]? = some xs → SqT K H r xs⟩
theorem zip_vals {X : Cx} {pins : List (Addr × Obj)} {σ : St} {H : Hp} {s : Shared} (I : Inv X pins σ H s) {i : Nat} : ∀ (rs : List Addr) (cols : List (List V)), rs.length = cols.length → (∀ xs ∈ cols, i < xs.length) → (∀ (j : Nat) (r : Addr) (xs : List V), rs[j]? = some r → cols[j]? = some xs → SqT X.K H r xs) →
    ∃ vs : List Value, vs.length = rs.length ∧ Vals (cols.map fun xs => xs.getD i .non) vs ∧ ∀ (j : Nat) (t : Addr), rs[j]? = some t → ∃ xs, s.heap.IsTuple t xs ∧ xs[i]? = vs[j]?
  | [], [], _, _, _ => ⟨[], rfl, .nil, nofun⟩
  | [], _ :: _, h, _, _ => by simp at h
  | _ :: _, [], h, _, _ => by simp at h
  | r :: rs, xs :: cols, h, hi, hc => by
    obtain ⟨vs, e1, e2, e3⟩ := zip_vals I rs cols (by simpa using h) (fun ys hy => hi ys (List.mem_cons_of_mem _ hy)) fun j q ys h1 h2 => hc (j + 1) q ys h1 h2
    obtain ⟨its, rv, p, _⟩ := I.tuple (hc 0 r xs rfl rfl)
    have hl := hi xs List.mem_cons_self
    obtain ⟨u, hu, ru⟩ := rv.get (List.getElem?_eq_getElem hl)
    refine ⟨u :: vs, by simp [e1], .cons (by show RelV (xs.getD i .non) u; rw [List.getD_eq_getElem?_getD, List.getElem?_eq_getElem hl]; exact ru) e2, fun j t e => ?_⟩
    cases j with
    | zero => cases e; exact ⟨_, p, by simpa using hu⟩
    | succ j => exact e3 j t e
theorem turn_zipS {P : Program} {w : World} {K : PySem.W.Frag} {x : Str} {px : Pos} {z TI TO : Addr} {its rs : List Addr} {cols : List (List V)} {m : Nat} (D : ZAp z TI TO its rs) (hl : rs.length = cols.length) (hm : ∀ xs ∈ cols, xs.length = m) :
    Turn P w K (.Name x px) (ItzS K rs cols m) (z :: TO :: TI :: its) z (SZ z TI TO its rs) where
  mem := by simp
  obj := fun i h st c hc => by
    obtain ⟨⟨f0, f1, hz, _⟩, hTI, ⟨vals, hTO, _⟩, hit⟩ := st
    simp only [List.mem_cons] at hc
    rcases hc with q | q | q | q
    · rw [q]; exact ⟨_, hz, fun v q => nomatch q⟩
    · rw [q]; exact ⟨_, hTO, fun v q => nomatch q⟩
    · rw [q]; exact ⟨_, hTI, fun v q => nomatch q⟩
    · obtain ⟨j, hj, e⟩ := List.getElem_of_mem q
      have hj2 : j < rs.length := by rw [← D.len]; exact hj
      obtain ⟨o, ho, _, hd⟩ := hit j c rs[j] (by rw [List.getElem?_eq_getElem hj, e]) (List.getElem?_eq_getElem hj2)
      exact ⟨o, ho, fun v q => by rw [hd] at q; cases q⟩
  keep := fun i h h' st k => by
    obtain ⟨⟨f0, f1, hz, hf⟩, hTI, ⟨vals, hTO, hv⟩, hit⟩ := st
    exact ⟨⟨f0, f1, k z (by simp) _ hz, hf⟩, k TI (by simp) _ hTI, ⟨vals, k TO (by simp) _ hTO, hv⟩, fun j it t h1 h2 => (hit j it t h1 h2).at fun o e => k it (by simp [List.mem_of_getElem? h1]) o e⟩
  item := by
    intro X hP hw hK hc i pins s σ H E I hf st hg
    subst hP hw hK
    obtain ⟨hi, hq⟩ := hg
    obtain ⟨vs, e1, e2, e3⟩ := zip_vals I (i := i) rs cols hl (fun xs h => by rw [hm xs h]; exact hi) hq
    refine zipN_pyNext_item D st (by rw [e1, D.len]) e3 fun h' S' hT hsz hk => ⟨_, rfl, wpAny_pure ?_⟩
    have new : ObjOk X.prog X.w (upd H s.heap.objs.size (.tup (cols.map fun xs => xs.getD i .non))) h' s.heap.objs.size (.tup (cols.map fun xs => xs.getD i .non)) :=
      ⟨by show (cols.map _).length ≤ sizeLine; rw [List.length_map, ← hl, ← D.len, sizeLine_eq]; have := D.most; omega, vs, e2, ⟨_, hT, rfl, rfl, _, rfl⟩⟩
    have I1 : Inv X pins σ (upd H s.heap.objs.size (.tup (cols.map fun xs => xs.getD i .non))) { s with heap := h' } :=
      I.turnedNew (t' := s.toks) (ch := z :: TO :: TI :: its) (fun c o hb q => hk c o (fun q' => hb (by simp only [List.mem_cons] at q' ⊢; rcases q' with q' | q' | q' <;> simp [q'])) q) hf (Nat.le_refl _) new
    refine ⟨.ref s.heap.objs.size, _, I1, rfl, ⟨_, rfl, I.hok.fresh (Nat.le_refl _), rfl⟩, S', fun c hcm => ?_⟩
    have hlt : c < s.heap.objs.size := by
      obtain ⟨⟨f0, f1, hz, _⟩, hTI, ⟨vals, hTO, _⟩, hit⟩ := st
      simp only [List.mem_cons] at hcm
      rcases hcm with q | q | q | q
      · rw [q]; exact Heap.lt_size hz
      · rw [q]; exact Heap.lt_size hTO
      · rw [q]; exact Heap.lt_size hTI
      · obtain ⟨j, hj, e⟩ := List.getElem_of_mem q
        have hj2 : j < rs.length := by rw [← D.len]; exact hj
        obtain ⟨o, ho, _⟩ := hit j c rs[j] (by rw [List.getElem?_eq_getElem hj, e]) (List.getElem?_eq_getElem hj2)
        exact Heap.lt_size ho
    rw [upd_ne (Nat.ne_of_lt hlt)]
    exact (hf c hcm).1
  done := by
    intro X hP hw hK hc i pins s σ H E I hf st hg
    subst hP hw hK
    obtain ⟨hi, hq⟩ := hg
    have hp := D.pos
    have hl2 := D.len
    have h0 : 0 < rs.length := by omega
    have h1 : 0 < cols.length := by omega
    obtain ⟨its0, rv, p, _⟩ := I.tuple (hq 0 rs[0] cols[0] (List.getElem?_eq_getElem h0) (List.getElem?_eq_getElem h1))
    have ln := rv.length
    have lm := hm cols[0] (List.getElem_mem h1)
    refine zipN_pyNext_end (I.ok.hd hc) D st (List.getElem?_eq_getElem h0) p (by rw [List.getElem?_toArray]; exact List.getElem?_eq_none (by omega)) fun h' hk => ⟨rfl, I.turnedL (t' := s.toks) (ch := z :: TO :: TI :: its) (fun c o hb q => hk c o (fun q' => hb (by simp only [List.mem_cons] at q' ⊢; rcases q' with q' | q' | q' <;> simp [q'])) q) hf⟩
  self := fun A i s Q E st h => by
    obtain ⟨⟨f0, f1, hz, _⟩, _⟩ := st
    exact wpAny_pyIter_zipF hz h
def iZipS (K : PySem.W.Frag) (te : TE) : TI := fun σ H R => te σ H fun v H1 => ∃ (a : Addr) (rs : List Addr) (cols : List (List V)) (m : Nat), v = .ref a ∧ SqT K H1 a (rs.map V.ref) ∧ rs.length = cols.length ∧ 0 < rs.length ∧ rs.length ≤ 1000 ∧ (∀ xs ∈ cols, xs.length = m) ∧
  (∀ (j : Nat) (r : Addr) (xs : List V), rs[j]? = some r → cols[j]? = some xs → SqT K H1 r xs) ∧ R (ItzS K rs cols m) H1
theorem callWith_typeS {M : Model} {A : Around} {E : Value → Shared → Prop} {s : Shared} {pos : Pos} {T : String} {args : List (Bool × Sem Value)} {Q : Value → Shared → Prop} (hst : args.any (·.1) = true)
    (h : wpAny M A (evalArgs (.type T) true args []) (fun a s₁ => wpAny M A (call (.type T) ([] ++ a.pos) a.kw) Q E s₁) E s) : wpAny M A (callWith pos (.type T) [] args []) Q E s := by
  unfold callWith
  refine wpAny_bind (wpAny_holding (wpAny_mono h (fun a s₁ h₁ => wpAny_bind (wpAny_standAt ?_)) fun _ _ x => x))
  simp only [hst, List.any_nil, Bool.or_false]
  refine wpAny_bind (wpAny_pure ?_)
  exact wpAny_bind (wpAny_mono (wpAny_operating h₁) (fun r s₂ hr => wpAny_bind (wpAny_holding (wpAny_point (wpAny_pure hr)))) fun _ _ x => x)
theorem vals_refs : ∀ {rs : List Addr} {us : List Value}, Vals (rs.map V.ref) us → us = rs.map Value.ref
  | [], _, .nil => rfl
  | r :: rs, _, .cons h t => by rw [vals_refs t]; cases h; rfl
theorem pi_zipS {X : Cx} {e : Expr} {te : TE} {x : Str} {p sp pos px : Pos} (hg : Gl X "zip") (hm : X.mg "zip" = none) (ha : PE X e te) (hs : starEach [.Starred e sp] X.env = [(true, eval e X.env)] := by rfl) :
    PI X (.Name x px) (.Call (.Name "zip" p) [.Starred e sp] [] pos) (iZipS X.K te) := by
  intro pins s σ H R I h
  refine Call_ (ld_blt I hg hm boot_zip5 ?_)
  rw [hs]
  refine callWith_typeS rfl (PySem.W.ks_lone (thn (ha pins s σ H _ I h) fun u s1 ⟨v, H1, I1, r1, q1⟩ => ?_))
  obtain ⟨a, rs, cols, m, rfl, hqa, hl, hp0, hp1, hcm, hq, q⟩ := q1
  obtain rfl : u = Value.ref a := r1
  obtain ⟨its, r, hlt, z⟩ := I1.tuple hqa
  obtain ⟨o, e1, e2, n, e3⟩ := id hlt
  have hT : s1.TypeIs (.ref a) "tuple" := ⟨o, e1, e2⟩
  unfold PySem.W.StarOf
  refine wpAny_bind (wpAny_specialOf hT PySem.F.slot_tuple_iter.lookup (wpAny_pure ⟨rfl, ?_⟩))
  refine wpAny_collect_seq a (.inr rfl) e1 e2 e3 (fun h' hk => ?_) (by rw [List.size_toArray, ← r.length]; exact z)
  rw [List.toList_toArray, vals_refs r, List.nil_append]
  have I2 : Inv X pins σ H1 { s1 with heap := h' } := I1.kept (t' := s1.toks) hk
  have ht : ∀ (j : Nat) (t : Addr), rs[j]? = some t → ∃ xs, Heap.IsTuple h' t xs := fun j t e => by
    have hj : j < cols.length := by rw [← hl]; exact (List.getElem?_eq_some_iff.mp e).1
    obtain ⟨its, _, p, _⟩ := I2.tuple (hq j t cols[j] e (List.getElem?_eq_getElem hj))
    exact ⟨_, p⟩
  refine call_zip_n (s := { s1 with heap := h' }) hp1 hp0 ht fun h'' hz hTI hTO hit hk2 => wpAny_pyIter_zipF hz ?_
  have hlt2 : ∀ t ∈ rs, t < h'.objs.size := fun t hm => by
    obtain ⟨j, hj, e⟩ := List.getElem_of_mem hm
    obtain ⟨xs, o, ho, _⟩ := ht j t (by rw [List.getElem?_eq_getElem hj, e])
    exact Heap.lt_size ho
  have D := zap_new hp1 hp0 hlt2
  have I3 : Inv X pins σ H1 { s1 with heap := h'' } := I2.kept (t' := s1.toks) hk2
  have mem : ∀ y : Nat, y ∈ itsOf h'.objs.size rs.length → h'.objs.size ≤ y := fun y hy => by
    unfold itsOf at hy
    obtain ⟨b, _, rfl⟩ := List.mem_map.mp hy
    exact Nat.le_add_right _ _
  refine ⟨_, _, _, _, H1, rfl, I3, turn_zipS D hl hcm, ⟨⟨.none, false, hz, .inl rfl⟩, hTI, ?_, fun j it t h1 h2 => ?_⟩, fun c hc => ?_, q⟩
  · obtain ⟨vals, h1, h2⟩ := hTO
    exact ⟨vals, h1, by rw [h2]; simp [itsOf]⟩
  · have : it = h'.objs.size + j := by
      unfold itsOf at h1
      rw [List.getElem?_map] at h1
      obtain ⟨b, hb, rfl⟩ := Option.map_eq_some_iff.mp h1
      obtain ⟨_, e⟩ := List.getElem?_eq_some_iff.mp hb
      rw [List.getElem_range] at e
      rw [e]
    rw [this]
    exact hit j t h2
  · have hle : h'.objs.size ≤ c := by
      simp only [List.mem_cons] at hc
      rcases hc with q | q | q | q
      · rw [q]; exact Nat.le_trans (Nat.le_add_right _ _) (Nat.le_add_right _ _)
      · rw [q]; exact Nat.le_trans (Nat.le_add_right _ _) (Nat.le_add_right _ _)
      · rw [q]; exact Nat.le_add_right _ _
      · exact mem c q
    exact I2.fpOk hle (I2.hok.fresh hle)
theorem lc_zipS {K : PySem.W.Frag} {rs : List Addr} {cols : List (List V)} {n : Nat} {g : TG} {te : TE} {vs : List Nat} {σ : St} {H1 : Hp} {D : Addr} {Qd : Hp → Prop} (Pv : Nat → Hp → Prop) (h0 : Pv 0 (upd H1 D (.lst [])))
    (hl : ∀ i H, i ≤ n → Pv i H → ∀ (j : Nat) (r : Addr) (xs : List V), rs[j]? = some r → cols[j]? = some xs → SqT K H r xs)
    (hs : ∀ i T H, i < n → Pv i H → H T = none → g (.ref T) (wipe σ vs) (upd H T (.tup (cols.map fun xs => xs.getD i .non))) fun σ2 H2 => wipe σ2 vs = wipe σ vs ∧
      te σ2 H2 fun y H4 => ∃ acc, H4 D = some (.lst acc) ∧ acc.length < sizeLine ∧ Pv (i + 1) (upd H4 D (.lst (acc ++ [y])))) (hd : ∀ H, Pv n H → Qd H) :
    ∃ W : Nat → Nat → Hp → Prop, (∃ m, W 0 m (upd H1 D (.lst []))) ∧ ∀ i m H, W i m H →
      ((ItzS K rs cols n).stop i H ∧ Qd H) ∨ ((ItzS K rs cols n).go i H ∧ ∃ Nx : Hp → Prop, (∀ H', Nx H' → ∃ m', m' < m ∧ W (i + 1) m' H') ∧ ∀ x H', (ItzS K rs cols n).yld i H x H' → g x (wipe σ vs) H' fun σ2 H2 => wipe σ2 vs = wipe σ vs ∧ tYes σ2 H2 fun b H3 =>
        if b = true then te σ2 H3 fun y H4 => ∃ acc, H4 D = some (.lst acc) ∧ acc.length < sizeLine ∧ Nx (upd H4 D (.lst (acc ++ [y]))) else Nx H3) := by
  refine ⟨fun i m H => m = n - i ∧ i ≤ n ∧ Pv i H, ⟨n, by simp, Nat.zero_le _, h0⟩, ?_⟩
  rintro i m H ⟨rfl, hi, p⟩
  have q := hl i H hi p
  by_cases hlt : i < n
  · refine .inr ⟨⟨hlt, q⟩, Pv (i + 1), fun H' p' => ⟨n - (i + 1), by omega, rfl, hlt, p'⟩, fun v H' y => ?_⟩
    obtain ⟨T, rfl, hT, rfl⟩ := y
    exact hs i T H hlt p hT
  · have e : i = n := by omega
    subst e
    exact .inl ⟨⟨Nat.le_refl _, q⟩, hd H p⟩
end L2
set_option Elab.async false
set_option linter.all false
set_option maxRecDepth 100000
set_option maxHeartbeats 1000000
namespace PySem
open PySem.Spec PyProof.Rows L2
theorem sum_intTupG {prog : Program} {w : World} {A : Around} {E : Value → Shared → Prop} {s : Shared} {l : Addr} {xs : Array (Int × Tok)} {Q : Value → Shared → Prop} (hh : A.handled = none) (hl : s.heap.IsTuple l (intItems xs))
    (h : ∀ h' tk t', (∀ b o, s.heap.get? b = some o → h'.get? b = some o) → Q (.int (preSum (numAt xs) xs.size) t') { s with heap := h', toks := tk }) :
    wpAny (model prog w) A (call (.builtin "sum") [.ref l]) Q E s := by
  have hlt : l < s.heap.objs.size := by obtain ⟨o, ho, _⟩ := hl; exact Heap.lt_size ho
  refine call_sum_walkG (wpAny_pyIter_tuple hl ?_)
  refine ⟨_, _, _, _, _, _, numAt xs, rfl, Walks.tuple (A := A.in1) hh _ l (Nat.ne_of_lt hlt) (intItems xs), ⟨⟨_, Heap.get?_push_size _ rfl, rfl, rfl⟩, hl.push _⟩, fun b hb => ?_, (fun _ _ => intItems_at), fun h' tk t' hk => ?_⟩
  · show b < (s.heap.push _).objs.size
    rw [Heap.size_push]
    have : b = s.heap.objs.size ∨ b = l := by simpa using hb
    rcases this with q | q
    · rw [q]; exact Nat.lt_succ_self _
    · rw [q]; exact Nat.lt_succ_of_lt hlt
  · have := h h' tk t' fun b o e => hk b o (fun q => by
      have : b = s.heap.objs.size := by simpa using q
      exact Nat.ne_of_lt (Heap.lt_size e) this) (Heap.get?_push_of_some _ e)
    simpa [intItems] using this
end PySem
namespace L2
open PySem PySem.Spec PyProof.Rows
def rSumT (K : PySem.W.Frag) : List V → Hp → VK → Prop := fun vs H Q => ∃ (a : Addr) (ns : List Int), vs = [V.ref a] ∧ (SqL K H a (ns.map V.int) ∨ SqT K H a (ns.map V.int)) ∧ Q (.int ns.sum) H
theorem cr_sumT {X : Cx} (hc : X.calm = true) : CallR X (.builtin "sum") (rSumT X.K) := by
  intro pins s σ H vs us Q I r h
  obtain ⟨a, ns, rfl, hs, q⟩ := h
  rcases hs with hs | hs
  · exact cr_sum hc pins s σ H _ us Q I r ⟨a, ns, rfl, hs, q⟩
  · obtain ⟨its, rv, hl, _⟩ := I.tuple hs
    rw [Vals.ref1 r]
    have hi := rv.ints
    obtain ⟨xs, e⟩ := hi.allInts.items
    have hn : numsOf (intItems xs).toList = ns := by rw [← e]; exact hi.numsOf
    rw [nums_intItems] at hn
    rw [e] at hl
    refine PySem.sum_intTupG (I.ok.hd hc) hl fun h' tk t' hk => ?_
    rw [preSum_eq, List.take_of_length_le (by simp), hn]
    exact ⟨.int _, H, I.kept hk, ⟨_, rfl⟩, q⟩
theorem cr_sumTK {X : Cx} {K : PySem.W.Frag} (hK : X.K = K) (hc : X.calm = true) : CallR X (.builtin "sum") (rSumT K) := hK ▸ cr_sumT hc
end L2
set_option Elab.async false
set_option linter.all false
set_option maxRecDepth 100000
set_option maxHeartbeats 4000000
namespace Hs
open PySem L2
section
variable {P : Program} {w : World} {K : PySem.W.Frag} {mg : Str → Option Value} {base : Heap} {f : Addr} {fd : FuncData} {C : CsA} {S fH : Addr} {tM : Tok}
theorem scTotals : FnScope ["skin", "rows", "sums", "column"] ["skin"] (defScope s_totals) := ⟨rfl, rfl, rfl, by decide +kernel, rfl, by decide +kernel, by decide +kernel⟩
def colL (rows : List (List Int)) (k : Nat) : List Int := rows.map fun row => row.getD k 0
noncomputable def totL (rows : List (List Int)) : List Int := ((List.range 5).map fun k => (colL rows k).sum) ++ [(rows.length : Int)]
noncomputable def totC (on : List Int) (ms : List (Option Int)) : List Int := totL (allC on ms)
theorem colV (rows : List (List Int)) (k : Nat) (h : ∀ row ∈ rows, k < row.length) : (rows.map fun row => (row.map V.int).getD k .non) = (colL rows k).map V.int := by
  unfold colL
  rw [List.map_map]
  refine List.map_congr_left fun row hr => ?_
  have := h row hr
  show (row.map V.int).getD k .non = .int (row.getD k 0)
  rw [List.getD_eq_getElem?_getD, List.getD_eq_getElem?_getD, List.getElem?_map, List.getElem?_eq_getElem this]; rfl
theorem allC_five {on : List Int} {ms : List (Option Int)} {row : List Int} (h : row ∈ allC on ms) : row.length = 5 := by
  unfold allC at h
  obtain ⟨p, _, rfl⟩ := List.mem_map.mp h
  rfl
theorem allC_most {on : List Int} {ms : List (Option Int)} (S : SkinOk on ms) : (allC on ms).length ≤ on.length ∧ 0 < (allC on ms).length := by
  have O := S.partsOk
  unfold allC; rw [List.length_map]
  refine ⟨O.len, ?_⟩
  have hp : 0 < on.length := S.pos
  obtain ⟨j, row, h1, _⟩ := O.all 0 (by unfold InR; omega)
  have := (List.getElem?_eq_some_iff.mp h1).1
  omega
def spTotals (T : TabL) : Sp := fun vs H Q _ => ∃ (p : Addr) (on : List Int) (ms : List (Option Int)), vs = [.ref p] ∧ SkAt H p on ms ∧ Tabs T H ∧
  ∀ r H', Loose H H' → Tabs T H' → H' r = some (.tup ((totC on ms).map V.int)) → Q (.ref r) H'
theorem ok_totals {T : TabL} (B : Bi mg) (hZip : mg "zip" = none) (hSu : mg "sum" = none) (FCo : Fn P w K mg base "counts" ["skin"] 8 (spCounts T)) (F : Fun K "totals" "totals" s_totals f fd) : FnOk P w K mg base CX0 9 f fd ["skin"] (spTotals T) := by
  refine F.ok scTotals (fun vs H Q E h => ?_) (fun cdv A outer s H vs Q E hr h => ?_)
  · obtain ⟨p, on, ms, rfl, _⟩ := h; rfl
  obtain ⟨p, on, ms, rfl, S, TS, q⟩ := h
  refine ⟨_, (pss_cons (ps_set (i := 1) scTotals.nd rfl (Or.inl rfl) (pe_callF FCo hr (by decide) (pa_cons (pv 0) pa_nil)))
   (pss_cons (ps_setLc (i := 2) (own := [("column", 3)]) (g := gName 3) rfl scTotals.nd rfl rfl (sw_true rfl rfl rfl rfl) (pi_zipS rfl hZip (pv 1)) (blkOk_by (own := [("column", 3)]) (N := ["skin", "rows", "sums", "column"]) (sc := (defScope s_totals)) (by decide +kernel)) (fun _ _ _ _ _ => (pg_name (i := 3) scTotals.nd rfl (Or.inl rfl))) (fun _ _ _ _ _ => pts_nil) (fun _ _ _ _ _ => (pe_callB (cr_sumTK (K := K) rfl rfl) rfl hSu bt_sum (pa_cons (pv 3) pa_nil))))
   (pss_one (ps_ret (pe_tup (pa_starK (K := K) rfl (pv 2) (pa_cons (pe_callB call_len_seq rfl B.len_ bt_len (pa_cons (pv 1) pa_nil)) pa_nil))))))), ?_⟩
  refine ⟨_, rfl, p, on, ms, rfl, S, TS, fun ra H1 l1 TS1 R1 => ?_⟩
  have hm := allC_most S.ok
  have h5 : ∀ row ∈ allC on ms, row.length = 5 := fun row h => allC_five h
  have hle := S.ok.le
  obtain ⟨rs, a1, a2, a3⟩ := id R1
  unfold totC at q
  generalize allC on ms = AC at R1 a2 a3 hm h5 q
  refine ⟨_, rfl, ra, rs, AC.map (fun row => row.map V.int), 5, rfl, SqT.of a1, by rw [List.length_map]; exact a2, by omega, by omega, fun xs hx => ?_, fun j r xs h1 h2 => ?_, fun D hD => ?_⟩
  · obtain ⟨row, hr, rfl⟩ := List.mem_map.mp hx
    rw [List.length_map]; exact h5 row hr
  · rw [List.getElem?_map] at h2
    obtain ⟨row, hr, rfl⟩ := Option.map_eq_some_iff.mp h2
    exact SqT.of (a3 j r row h1 hr)
  refine lc_zipS (K := K) (rs := rs) (cols := AC.map (fun row => row.map V.int)) (n := 5) (Pv := fun i H2 => Same H1 H2 ∧ H2 D = some (.lst (((List.range i).map fun k => (colL AC k).sum).map V.int))) ⟨same_put hD _, upd_same⟩ (fun i H2 _ pv j r xs h1 h2 => ?_) ?_ ?_
  · rw [List.getElem?_map] at h2
    obtain ⟨row, hr, rfl⟩ := Option.map_eq_some_iff.mp h2
    exact SqT.of (pv.1 _ _ (a3 j r row h1 hr))
  · rintro i Tt H2 hi ⟨s2, g2⟩ hT
    have ec : ((AC.map (fun row => row.map V.int)).map fun xs => xs.getD i .non) = (colL AC i).map V.int := by
      rw [List.map_map]; exact colV AC i fun row hr => by rw [h5 row hr]; exact hi
    rw [ec]
    refine ⟨rfl, _, rfl, Tt, colL AC i, rfl, .inr (SqT.of upd_same), _, up hT g2, by rw [List.length_map, List.length_map, List.length_range, sizeLine_eq]; omega, same_set (s2.trans (same_put hT _)) hD, ?_⟩
    rw [upd_same, List.range_succ, List.map_append, List.map_append]; rfl
  rintro H2 ⟨s2, g2⟩
  have ra2 := s2 _ _ a1
  refine ⟨_, rfl, D, _, rfl, .inl (SqL.of g2), _, rfl, ra, _, rfl, .inr (SqT.of ra2), ?_⟩
  refine ⟨?_, fun r hr => ?_⟩
  · show (((List.range 5).map fun k => (colL AC k).sum).map V.int ++ [V.int ((rs.map V.ref).length : Int)]).length ≤ sizeLine
    rw [List.length_append, List.length_map, List.length_map, List.length_range, sizeLine_eq]; show 5 + 1 ≤ _; omega
  · refine q r _ (l1.trans (s2.trans (same_put hr _)).loose) ((TS1.same s2).same (same_put hr _)) ?_
    rw [upd_same]
    unfold totL
    rw [List.map_append, List.length_map, a2]; rfl
end
end Hs
set_option Elab.async false
set_option linter.all false
set_option maxRecDepth 100000
set_option maxHeartbeats 1000000
namespace Hs
open PySem L2
def onAt (on : List Int) : Nat → Int → Int
  | 0, x => lk on x
  | t + 1, x => if x % 4 = 3 then 4 * onAt on t (x / 4) + 3 else 4 * (x / 4) + (x % 4 + 1) % 3
def ahAt (on : List Int) : Nat → Int → Int
  | 0, x => ahd on x
  | t + 1, x => if x % 4 = 3 then 4 * ahAt on t (x / 4) + 3 else 4 * (x / 4) + (x % 4 + 2) % 3
def mtAt (on : List Int) (ms : List (Option Int)) : Nat → Int → Option Int
  | 0, x => lkM ms x
  | t + 1, x => if x % 4 = 1 ∨ x % 4 = 3 then some (4 * (x / 4) + 4 - x % 4) else
    match mtAt on ms t (if x % 4 = 0 then x / 4 else ahAt on t (x / 4)) with
    | none => none
    | some m => if x % 4 = 0 then some (4 * onAt on t m + 2) else some (4 * m)
end Hs
set_option Elab.async false
set_option linter.all false
set_option maxRecDepth 100000
set_option maxHeartbeats 1000000
namespace Hs
open PySem L2
theorem Trail.next {f : Int → Option Int} {h0 x : Int} {l : List Int} (t : Trail f h0 x l) : ∀ i a b, l[i]? = some a → l[i + 1]? = some b → f a = some b := by
  induction t with
  | last e => intro i a b h1 h2; simp at h2
  | @step x y l e ne t ih =>
    intro i a b h1 h2
    match i with
    | 0 =>
      obtain ⟨r, rfl⟩ := t.head
      have h1 : some x = some a := h1
      have h2 : some y = some b := h2
      cases h1; cases h2; exact e
    | i + 1 => exact ih i a b h1 h2
theorem Trail.drop {f : Int → Option Int} {h0 x : Int} {l : List Int} (t : Trail f h0 x l) : ∀ i z, l[i]? = some z → Trail f h0 z (l.drop i) := by
  induction t with
  | @last x e =>
    intro i z h
    match i with
    | 0 => cases h; exact .last e
    | i + 1 => simp at h
  | @step x y l e ne t ih =>
    intro i z h
    match i with
    | 0 =>
      have h : some x = some z := h
      cases h; exact .step e ne t
    | i + 1 => exact ih i z h
end Hs
set_option Elab.async false
set_option linter.all false
set_option maxRecDepth 100000
namespace Hs
open PySem L2
def mt (ms : List (Option Int)) (h : Int) : Int := (lkM ms h).getD 0
def Whole (n : Nat) (ms : List (Option Int)) : Prop := ∀ h, InR n h → lkM ms h ≠ none
section
variable {on : List Int} {ms : List (Option Int)} (S : SkinOk on ms) (W : Whole on.length ms)
include S W
end
section
variable {on : List Int} {ms : List (Option Int)} (S : SkinOk on ms) (W : Whole on.length ms)
include S W
end
end Hs
set_option Elab.async false
set_option linter.all false
set_option maxRecDepth 100000
namespace Hs
open PySem L2
structure Orb (n : Nat) (g : Int → List Int) : Prop where
  self : ∀ h, InR n h → h ∈ g h
  rng : ∀ h, InR n h → ∀ x ∈ g h, InR n x
  same : ∀ h x, InR n h → x ∈ g h → ∀ y, y ∈ g x ↔ y ∈ g h
def clsL (n : Nat) (g : Int → List Int) (h : Int) : List Int := (rngL n).filter fun x => decide (x ∈ g h)
def repG (n : Nat) (g : Int → List Int) (h : Int) : Int := (clsL n g h).headD h
section
variable {n : Nat} {g : Int → List Int} (O : Orb n g)
include O
theorem Orb.rep {h : Int} (k : InR n h) : InR n (repG n g h) ∧ repG n g h ∈ g h ∧ ∀ x ∈ g h, repG n g h ≤ x := by
  have hm : ∀ x, x ∈ clsL n g h ↔ InR n x ∧ x ∈ g h := fun x => by unfold clsL; rw [List.mem_filter, rngL_mem, decide_eq_true_iff]
  have pw : (clsL n g h).Pairwise (· < ·) := (rngL_lt n).sublist List.filter_sublist
  have hh := (hm h).mpr ⟨k, O.self h k⟩
  unfold repG
  cases e : clsL n g h with
  | nil => rw [e] at hh; cases hh
  | cons a r =>
    rw [e] at hm pw
    obtain ⟨p1, _⟩ := List.pairwise_cons.mp pw
    obtain ⟨i1, i2⟩ := (hm a).mp (List.mem_cons_self ..)
    refine ⟨i1, i2, fun x hx => ?_⟩
    rcases List.mem_cons.mp ((hm x).mpr ⟨O.rng h k x hx, hx⟩) with rfl | z
    · exact Int.le_refl _
    · exact Int.le_of_lt (p1 x z)
theorem Orb.one {h x : Int} (k : InR n h) (hx : x ∈ g h) : repG n g x = repG n g h := by
  have kx := O.rng h k x hx
  have r1 := O.rep k
  have r2 := O.rep kx
  have a := r2.2.2 _ ((O.same h x k hx _).mpr r1.2.1)
  have b := r1.2.2 _ ((O.same h x k hx _).mp r2.2.1)
  omega
end
section
variable {on : List Int} {ms : List (Option Int)} (S : SkinOk on ms)
include S
variable (W : Whole on.length ms)
include W
end
end Hs
set_option Elab.async false
set_option linter.all false
set_option maxRecDepth 100000
namespace Hs
open PySem L2
inductive EG (R : Int → Int → Prop) : Int → Int → Prop
  | refl (x : Int) : EG R x x
  | step {x y : Int} : R x y → EG R x y
  | symm {x y : Int} : EG R x y → EG R y x
  | trans {x y z : Int} : EG R x y → EG R y z → EG R x z
theorem EG.mono {R R' : Int → Int → Prop} (h : ∀ x y, R x y → EG R' x y) {x y : Int} (e : EG R x y) : EG R' x y := by
  induction e with
  | refl x => exact .refl x
  | step r => exact h _ _ r
  | symm _ ih => exact ih.symm
  | trans _ _ i1 i2 => exact i1.trans i2
theorem EG.closed {R : Int → Int → Prop} {C : Int → Prop} (h : ∀ x y, R x y → (C x ↔ C y)) {x y : Int} (e : EG R x y) : C x ↔ C y := by
  induction e with
  | refl x => exact Iff.rfl
  | step r => exact h _ _ r
  | symm _ ih => exact ih.symm
  | trans _ _ i1 i2 => exact i1.trans i2
def jn (R : Int → Int → Prop) (a b : Int) : Int → Int → Prop := fun x y => R x y ∨ (x = a ∧ y = b)
theorem EG.jn_iff {R : Int → Int → Prop} {a b x y : Int} : EG (jn R a b) x y ↔ EG R x y ∨ (EG R x a ∧ EG R b y) ∨ (EG R x b ∧ EG R a y) := by
  constructor
  · intro e
    induction e with
    | refl x => exact .inl (.refl x)
    | step r =>
      rcases r with r | ⟨rfl, rfl⟩
      · exact .inl (.step r)
      · exact .inr (.inl ⟨.refl _, .refl _⟩)
    | symm _ ih =>
      rcases ih with h | ⟨h, k⟩ | ⟨h, k⟩
      · exact .inl h.symm
      · exact .inr (.inr ⟨k.symm, h.symm⟩)
      · exact .inr (.inl ⟨k.symm, h.symm⟩)
    | trans _ _ i1 i2 =>
      rcases i1 with h | ⟨h, k⟩ | ⟨h, k⟩ <;> rcases i2 with h' | ⟨h', k'⟩ | ⟨h', k'⟩
      · exact .inl (h.trans h')
      · exact .inr (.inl ⟨h.trans h', k'⟩)
      · exact .inr (.inr ⟨h.trans h', k'⟩)
      · exact .inr (.inl ⟨h, k.trans h'⟩)
      · exact .inr (.inl ⟨h, k'⟩)
      · exact .inl (h.trans k')
      · exact .inr (.inr ⟨h, k.trans h'⟩)
      · exact .inl (h.trans k')
      · exact .inr (.inr ⟨h, k'⟩)
  · have m : ∀ {x y}, EG R x y → EG (jn R a b) x y := fun e => e.mono fun x y r => .step (.inl r)
    have ab : EG (jn R a b) a b := .step (.inr ⟨rfl, rfl⟩)
    rintro (h | ⟨h, k⟩ | ⟨h, k⟩)
    · exact m h
    · exact (m h).trans (ab.trans (m k))
    · exact (m h).trans (ab.symm.trans (m k))
open Classical in
noncomputable def cN (L : List Int) (R : Int → Int → Prop) : Nat := (L.filter fun h => decide (∀ x ∈ L, EG R h x → h ≤ x)).length
theorem cN_congr {L : List Int} {R R' : Int → Int → Prop} (h : ∀ x ∈ L, ∀ y ∈ L, EG R x y ↔ EG R' x y) : cN L R = cN L R' := by
  unfold cN
  congr 1
  refine List.filter_congr fun a ha => ?_
  rw [decide_eq_decide]
  exact ⟨fun k x hx e => k x hx ((h a ha x hx).mpr e), fun k x hx e => k x hx ((h a ha x hx).mp e)⟩
theorem least_ex {L : List Int} {n : Nat} (hR : ∀ x ∈ L, InR n x) {R : Int → Int → Prop} {a : Int} (ha : a ∈ L) : ∃ m ∈ L, EG R a m ∧ ∀ x ∈ L, EG R m x → m ≤ x := by
  have key : ∀ (k : Nat) (a : Int), a ∈ L → a.toNat = k → ∃ m ∈ L, EG R a m ∧ ∀ x ∈ L, EG R m x → m ≤ x := by
    intro k
    induction k using Nat.strongRecOn with
    | _ k ih =>
      intro a ha hk
      by_cases c : ∀ x ∈ L, EG R a x → a ≤ x
      · exact ⟨a, ha, .refl a, c⟩
      · have : ∃ x, x ∈ L ∧ EG R a x ∧ ¬ a ≤ x := by
          refine Classical.byContradiction fun z => c fun x hx e => Classical.byContradiction fun w => z ⟨x, hx, e, w⟩
        obtain ⟨x, hx, e, hl⟩ := this
        have gx := hR x hx
        unfold InR at gx
        obtain ⟨m, hm, e2, l⟩ := ih x.toNat (by omega) x hx rfl
        exact ⟨m, hm, e.trans e2, l⟩
  exact key _ a ha rfl
theorem filt_one {L : List Int} (nd : L.Nodup) {p q : Int → Bool} {B : Int} (hB : B ∈ L) (pB : p B = true) (h : ∀ x ∈ L, q x = true ↔ p x = true ∧ x ≠ B) : (L.filter p).length = (L.filter q).length + 1 := by
  induction L with
  | nil => cases hB
  | cons a t ih =>
    obtain ⟨na, nt⟩ := List.nodup_cons.mp nd
    by_cases e : a = B
    · subst e
      have qa : ¬ q a = true := fun z => ((h a List.mem_cons_self).mp z).2 rfl
      rw [List.filter_cons_of_pos pB, List.filter_cons_of_neg qa, List.length_cons]
      congr 2
      refine List.filter_congr fun x hx => ?_
      have hxa : x ≠ a := fun z => na (z ▸ hx)
      have := h x (List.mem_cons_of_mem _ hx)
      cases hp : p x <;> cases hq : q x <;> simp_all
    · have hB' : B ∈ t := by
        rcases List.mem_cons.mp hB with z | z
        · exact absurd z.symm e
        · exact z
      have ih' := ih nt hB' fun x hx => h x (List.mem_cons_of_mem _ hx)
      have ha := h a List.mem_cons_self
      cases hp : p a with
      | true =>
        have hq : q a = true := ha.mpr ⟨hp, e⟩
        rw [List.filter_cons_of_pos hp, List.filter_cons_of_pos hq, List.length_cons, List.length_cons, ih']
      | false =>
        have hq : ¬ q a = true := fun z => by have := (ha.mp z).1; rw [hp] at this; cases this
        rw [List.filter_cons_of_neg (by simp [hp]), List.filter_cons_of_neg hq, ih']
open Classical in
theorem cN_join {L : List Int} {n : Nat} (nd : L.Nodup) (hR : ∀ x ∈ L, InR n x) {R : Int → Int → Prop} {a b : Int} (ha : a ∈ L) (hb : b ∈ L) (ne : ¬ EG R a b) : cN L R = cN L (jn R a b) + 1 := by
  obtain ⟨A, hA, eA, lA⟩ := least_ex hR (R := R) ha
  obtain ⟨B, hB, eB, lB⟩ := least_ex hR (R := R) hb
  have key : ∀ {a b A B : Int}, A ∈ L → B ∈ L → EG R a A → EG R b B → (∀ x ∈ L, EG R A x → A ≤ x) → (∀ x ∈ L, EG R B x → B ≤ x) → ¬ EG R a b → A ≤ B → (∀ x ∈ L, ∀ y ∈ L, EG (jn R a b) x y ↔ EG R x y ∨ (EG R x a ∧ EG R b y) ∨ (EG R x b ∧ EG R a y)) →
      cN L R = cN L (jn R a b) + 1 := by
    intro a b A B hA hB eA eB lA lB ne le hj
    unfold cN
    refine filt_one nd hB (by simpa using lB) fun x hx => ?_
    rw [decide_eq_true_iff, decide_eq_true_iff]
    constructor
    · intro h
      refine ⟨fun y hy e => h y hy ((hj x hx y hy).mpr (.inl e)), ?_⟩
      rintro rfl
      have := h A hA ((hj x hx A hA).mpr (.inr (.inr ⟨eB.symm, eA⟩)))
      have e : x = A := by omega
      rw [← e] at eA
      exact ne (eA.trans eB.symm)
    · rintro ⟨h, hxB⟩ y hy e
      rcases (hj x hx y hy).mp e with e | ⟨e1, e2⟩ | ⟨e1, e2⟩
      · exact h y hy e
      · have h1 := h A hA (e1.trans eA)
        have h2 := lB y hy (eB.symm.trans e2)
        omega
      · have h1 := h B hB (e1.trans eB)
        have h2 := lB x hx (eB.symm.trans e1.symm)
        omega
  rcases Int.le_total A B with le | le
  · exact key hA hB eA eB lA lB ne le fun x _ y _ => EG.jn_iff
  · rw [key (a := b) (b := a) hB hA eB eA lB lA (fun e => ne e.symm) le fun x _ y _ => EG.jn_iff]
    congr 1
    refine cN_congr fun x _ y _ => ?_
    rw [EG.jn_iff, EG.jn_iff]
    exact ⟨fun h => h.elim .inl fun h => h.elim (fun z => .inr (.inr z)) fun z => .inr (.inl z), fun h => h.elim .inl fun h => h.elim (fun z => .inr (.inr z)) fun z => .inr (.inl z)⟩
theorem cN_joined {L : List Int} {R : Int → Int → Prop} {a b : Int} (e : EG R a b) : cN L (jn R a b) = cN L R := by
  refine cN_congr fun x _ y _ => ⟨fun h => h.mono fun x y r => ?_, fun h => h.mono fun x y r => .step (.inl r)⟩
  rcases r with r | ⟨rfl, rfl⟩
  · exact .step r
  · exact e
structure PermL (L : List Int) (p : Int → Int) : Prop where
  into : ∀ x ∈ L, p x ∈ L
  inj : ∀ x ∈ L, ∀ y ∈ L, p x = p y → x = y
def stp (L : List Int) (p : Int → Int) : Int → Int → Prop := fun x y => x ∈ L ∧ y = p x
def stp2 (L : List Int) (p q : Int → Int) : Int → Int → Prop := fun x y => stp L p x y ∨ stp L q x y
def sw (a b : Int) (x : Int) : Int := if x = a then b else if x = b then a else x
theorem sw_l (a b : Int) : sw a b a = b := by unfold sw; rw [if_pos rfl]
theorem sw_r (a b : Int) : sw a b b = a := by
  unfold sw
  by_cases h : b = a
  · rw [if_pos h, h]
  · rw [if_neg h, if_pos rfl]
theorem sw_n {a b x : Int} (h1 : x ≠ a) (h2 : x ≠ b) : sw a b x = x := by unfold sw; rw [if_neg h1, if_neg h2]
theorem sw_sw (a b x : Int) : sw a b (sw a b x) = x := by
  by_cases h : x = a
  · subst h; rw [sw_l, sw_r]
  · by_cases k : x = b
    · subst k; rw [sw_r, sw_l]
    · rw [sw_n h k, sw_n h k]
theorem PermL.sw {L : List Int} {p : Int → Int} (P : PermL L p) {a b : Int} (ha : a ∈ L) (hb : b ∈ L) : PermL L (fun x => sw a b (p x)) := by
  refine ⟨fun x hx => ?_, fun x hx y hy e => ?_⟩
  · show Hs.sw a b (p x) ∈ L
    have := P.into x hx
    by_cases h : p x = a
    · rw [h, sw_l]; exact hb
    · by_cases k : p x = b
      · rw [k, sw_r]; exact ha
      · rw [sw_n h k]; exact this
  · have := congrArg (Hs.sw a b) e
    simp only [sw_sw] at this
    exact P.inj x hx y hy this
theorem PermL.comp {L : List Int} {p q : Int → Int} (P : PermL L p) (Q : PermL L q) : PermL L (fun x => p (q x)) :=
  ⟨fun x hx => P.into _ (Q.into x hx), fun x hx y hy e => Q.inj x hx y hy (P.inj _ (Q.into x hx) _ (Q.into y hy) e)⟩
theorem PermL.cyc {L : List Int} {n : Nat} (hR : ∀ x ∈ L, InR n x) {p : Int → Int} (P : PermL L p) {a : Int} (ha : a ∈ L) :
    ∃ l : List Int, l.Nodup ∧ l[0]? = some a ∧ (∀ z ∈ l, z ∈ L) ∧ (∀ (i : Nat) (x y : Int), l[i]? = some x → l[i + 1]? = some y → p x = y) ∧ (∀ x, l[l.length - 1]? = some x → p x = a) := by
  have hf : ∃ f : Int → Option Int, (∀ x ∈ L, f x = some (p x)) ∧ (∀ x y, InR n x → f x = some y → InR n y) ∧ ∀ x y z, InR n x → InR n y → f x = some z → f y = some z → x = y := by
    refine ⟨fun x => if x ∈ L then some (p x) else none, fun x hx => if_pos hx, fun x y _ e => ?_, fun x y z _ _ e1 e2 => ?_⟩
    · dsimp only at e
      by_cases h : x ∈ L
      · rw [if_pos h] at e; cases e; exact hR _ (P.into x h)
      · rw [if_neg h] at e; cases e
    · dsimp only at e1 e2
      by_cases h : x ∈ L
      · by_cases k : y ∈ L
        · rw [if_pos h] at e1; rw [if_pos k] at e2
          exact P.inj x h y k (Option.some.inj (e1.trans e2.symm))
        · rw [if_neg k] at e2; cases e2
      · rw [if_neg h] at e1; cases e1
  obtain ⟨f, f1, f2, f3⟩ := hf
  obtain ⟨l, t, nd, _, _⟩ := trail_ex f2 f3 (hR a ha)
  have hL : ∀ z ∈ l, z ∈ L := t.all ha fun u v hu e => by
    rw [f1 u hu] at e; cases e; exact P.into u hu
  obtain ⟨r, er⟩ := t.head
  refine ⟨l, nd, by rw [er]; rfl, hL, ?_, fun x hx => ?_⟩
  · have lin : ∀ {x0 : Int} {l : List Int}, Trail f a x0 l → (∀ z ∈ l, z ∈ L) → ∀ (i : Nat) (x y : Int), l[i]? = some x → l[i + 1]? = some y → p x = y := by
      intro x0 l t
      induction t with
      | last _ => intro _ i x y _ h; simp at h
      | step e _ t ih =>
        intro hm i x y h1 h2
        cases i with
        | zero =>
          cases h1
          obtain ⟨r, er⟩ := t.head
          rw [er] at h2
          cases h2
          rw [f1 _ (hm _ List.mem_cons_self)] at e
          exact Option.some.inj e
        | succ i => exact ih (fun z hz => hm z (List.mem_cons_of_mem _ hz)) i x y h1 h2
    exact lin t hL
  · obtain ⟨z, hz, hzn⟩ := t.fin
    rw [List.getLast?_eq_getElem?] at hz
    obtain rfl : z = x := Option.some.inj (hz.symm.trans hx)
    have hm := hL z (List.mem_of_getElem? hz)
    rw [f1 z hm] at hzn
    rcases hzn with h | h
    · cases h
    · exact Option.some.inj h
section
variable {L : List Int} {n : Nat} (nd : L.Nodup) (hR : ∀ x ∈ L, InR n x) {p : Int → Int} (P : PermL L p) {a b : Int} (ha : a ∈ L) (hb : b ∈ L) (ne : a ≠ b)
include hR P ha hb ne
theorem sw_apart (h : ¬ EG (stp L p) a b) : EG (stp L fun x => sw a b (p x)) a b := by
  obtain ⟨l, ndl, h0, hL, hs, hlast⟩ := P.cyc hR ha
  have into : ∀ z ∈ l, EG (stp L p) a z := by
    intro z hz
    obtain ⟨i, hi, rfl⟩ := List.getElem_of_mem hz
    clear hz
    induction i with
    | zero => rw [List.getElem?_eq_getElem hi] at h0; cases h0; exact .refl _
    | succ i ih =>
      have hi' : i < l.length := by omega
      refine (ih hi').trans (.step ⟨hL _ (List.getElem_mem hi'), (hs i _ _ (List.getElem?_eq_getElem hi') (List.getElem?_eq_getElem hi)).symm⟩)
  have nb : ∀ z ∈ l, z ≠ b := fun z hz e => h (e ▸ into z hz)
  have all : ∀ (i : Nat) (hi : i < l.length), EG (stp L fun x => sw a b (p x)) a l[i] := by
    intro i
    induction i with
    | zero => intro hi; rw [List.getElem?_eq_getElem hi] at h0; cases h0; exact .refl _
    | succ i ih =>
      intro hi
      have hi' : i < l.length := by omega
      have e := hs i _ _ (List.getElem?_eq_getElem hi') (List.getElem?_eq_getElem hi)
      refine (ih hi').trans (.step ⟨hL _ (List.getElem_mem hi'), ?_⟩)
      dsimp only
      rw [e, sw_n]
      · intro z
        have : i + 1 = 0 := nd_at ndl (List.getElem?_eq_getElem hi) (by rw [z]; exact h0)
        omega
      · exact nb _ (List.getElem_mem hi)
  have hp : 0 < l.length := by
    have := (List.getElem?_eq_some_iff.mp h0).1
    exact this
  have hl1 : l.length - 1 < l.length := by omega
  have e := hlast _ (List.getElem?_eq_getElem hl1)
  refine (all _ hl1).trans (.step ⟨hL _ (List.getElem_mem hl1), ?_⟩)
  dsimp only
  rw [e, sw_l]
theorem sw_same (h : EG (stp L p) a b) : ¬ EG (stp L fun x => sw a b (p x)) a b := by
  obtain ⟨l, ndl, h0, hL, hs, hlast⟩ := P.cyc hR ha
  have hp : 0 < l.length := (List.getElem?_eq_some_iff.mp h0).1
  have e0 : l[0] = a := by rw [List.getElem?_eq_getElem hp] at h0; exact Option.some.inj h0
  have hbl : b ∈ l := by
    have cl : ∀ x y, stp L p x y → (x ∈ l ↔ y ∈ l) := by
      rintro x y ⟨hx, rfl⟩
      constructor
      · intro hxl
        obtain ⟨i, hi, rfl⟩ := List.getElem_of_mem hxl
        by_cases c : i + 1 < l.length
        · rw [hs i _ _ (List.getElem?_eq_getElem hi) (List.getElem?_eq_getElem c)]; exact List.getElem_mem c
        · have e : i = l.length - 1 := by omega
          subst e
          rw [hlast _ (List.getElem?_eq_getElem hi), ← e0]; exact List.getElem_mem hp
      · intro hyl
        obtain ⟨i, hi, e⟩ := List.getElem_of_mem hyl
        cases i with
        | zero =>
          have hl1 : l.length - 1 < l.length := by omega
          have e2 := hlast _ (List.getElem?_eq_getElem hl1)
          have := P.inj _ (hL _ (List.getElem_mem hl1)) x hx (e2.trans (e0.symm.trans e))
          rw [← this]; exact List.getElem_mem hl1
        | succ i =>
          have hi' : i < l.length := by omega
          have e2 := hs i _ _ (List.getElem?_eq_getElem hi') (List.getElem?_eq_getElem hi)
          have := P.inj _ (hL _ (List.getElem_mem hi')) x hx (e2.trans e)
          rw [← this]; exact List.getElem_mem hi'
    exact (h.closed cl).mp (by rw [← e0]; exact List.getElem_mem hp)
  obtain ⟨k, hk, ek⟩ := List.getElem_of_mem hbl
  have k0 : 0 < k := by
    rcases Nat.eq_zero_or_pos k with z | z
    · subst z; exact absurd (e0.symm.trans ek) ne
    · exact z
  have cl : ∀ x y, stp L (fun x => sw a b (p x)) x y → ((∃ (i : Nat) (hi : i < l.length), i < k ∧ l[i] = x) ↔ ∃ (i : Nat) (hi : i < l.length), i < k ∧ l[i] = y) := by
    rintro x y ⟨hx, rfl⟩
    constructor
    · rintro ⟨i, hi, ik, rfl⟩
      have c : i + 1 < l.length := by omega
      have e := hs i _ _ (List.getElem?_eq_getElem hi) (List.getElem?_eq_getElem c)
      dsimp only
      rw [e]
      by_cases q : i + 1 = k
      · subst q
        rw [ek, sw_r]
        exact ⟨0, hp, k0, e0⟩
      · refine ⟨i + 1, c, by omega, ?_⟩
        rw [sw_n]
        · intro z
          have : i + 1 = 0 := nd_at ndl (List.getElem?_eq_getElem c) (by rw [z]; exact h0)
          omega
        · intro z
          have : i + 1 = k := nd_at ndl (List.getElem?_eq_getElem c) (by rw [z, ← ek]; exact List.getElem?_eq_getElem hk)
          omega
    · rintro ⟨i, hi, ik, e⟩
      have ep : p x = sw a b l[i] := by rw [e, sw_sw]
      cases i with
      | zero =>
        rw [e0, sw_l, ← ek] at ep
        have hk1 : k - 1 < l.length := by omega
        have e2 := hs (k - 1) _ _ (List.getElem?_eq_getElem hk1) (by rw [show k - 1 + 1 = k by omega]; exact List.getElem?_eq_getElem hk)
        exact ⟨k - 1, hk1, by omega, P.inj _ (hL _ (List.getElem_mem hk1)) x hx (e2.trans ep.symm)⟩
      | succ i =>
        rw [sw_n] at ep
        · have hi' : i < l.length := by omega
          have e2 := hs i _ _ (List.getElem?_eq_getElem hi') (List.getElem?_eq_getElem hi)
          exact ⟨i, hi', by omega, P.inj _ (hL _ (List.getElem_mem hi')) x hx (e2.trans ep.symm)⟩
        · intro z
          have : i + 1 = 0 := nd_at ndl (List.getElem?_eq_getElem hi) (by rw [z]; exact h0)
          omega
        · intro z
          have : i + 1 = k := nd_at ndl (List.getElem?_eq_getElem hi) (by rw [z, ← ek]; exact List.getElem?_eq_getElem hk)
          omega
  intro h2
  obtain ⟨i, hi, ik, e⟩ := (h2.closed cl).mp ⟨0, hp, k0, e0⟩
  have : i = k := nd_at ndl (List.getElem?_eq_getElem hi) (by rw [e, ← ek]; exact List.getElem?_eq_getElem hk)
  omega
omit hb ne in
theorem sw_jn (hb : b ∈ L) (ne : a ≠ b) (x y : Int) : EG (jn (stp L fun x => sw a b (p x)) a b) x y ↔ EG (jn (stp L p) a b) x y := by
  have ab : ∀ {R : Int → Int → Prop}, EG (jn R a b) a b := .step (.inr ⟨rfl, rfl⟩)
  have swE : ∀ {R : Int → Int → Prop} (z : Int), EG (jn R a b) z (sw a b z) := fun z => by
    by_cases h : z = a
    · subst h; rw [sw_l]; exact ab
    · by_cases k : z = b
      · subst k; rw [sw_r]; exact ab.symm
      · rw [sw_n h k]; exact .refl _
  constructor
  · intro e
    refine e.mono fun x y r => ?_
    rcases r with ⟨hx, rfl⟩ | ⟨rfl, rfl⟩
    · exact (EG.step (.inl ⟨hx, rfl⟩)).trans (swE _)
    · exact ab
  · intro e
    refine e.mono fun x y r => ?_
    rcases r with ⟨hx, rfl⟩ | ⟨rfl, rfl⟩
    · exact (EG.step (.inl ⟨hx, rfl⟩)).trans (swE _).symm
    · exact ab
include nd in
theorem sw_count : (EG (stp L p) a b → cN L (stp L fun x => sw a b (p x)) = cN L (stp L p) + 1) ∧ (¬ EG (stp L p) a b → cN L (stp L p) = cN L (stp L fun x => sw a b (p x)) + 1) := by
  have cj : cN L (jn (stp L fun x => sw a b (p x)) a b) = cN L (jn (stp L p) a b) := cN_congr fun x _ y _ => sw_jn hR P ha hb ne x y
  constructor
  · intro h
    rw [cN_join nd hR ha hb (sw_same hR P ha hb ne h), cj, cN_joined h]
  · intro h
    rw [cN_join nd hR ha hb h, ← cj, cN_joined (sw_apart hR P ha hb ne h)]
end
def mvL (L : List Int) (p : Int → Int) : Nat := (L.filter fun x => decide (p x ≠ x)).length
open Classical in
theorem cN_id {L : List Int} {p : Int → Int} (h : ∀ x ∈ L, p x = x) : cN L (stp L p) = L.length := by
  have e : ∀ x y, EG (stp L p) x y → x = y := fun x y e => by
    induction e with
    | refl _ => rfl
    | step r => obtain ⟨hx, rfl⟩ := r; exact (h _ hx).symm
    | symm _ ih => exact ih.symm
    | trans _ _ i1 i2 => exact i1.trans i2
  unfold cN
  congr 1
  refine List.filter_eq_self.mpr fun x hx => ?_
  rw [decide_eq_true_iff]
  intro y hy he
  rw [e x y he]; exact Int.le_refl _
theorem stp_congr {L : List Int} {p q : Int → Int} (h : ∀ x ∈ L, p x = q x) (x y : Int) : stp L p x y ↔ stp L q x y :=
  ⟨fun ⟨a, b⟩ => ⟨a, b.trans (h x a)⟩, fun ⟨a, b⟩ => ⟨a, b.trans (h x a).symm⟩⟩
theorem euler {L : List Int} {n : Nat} (nd : L.Nodup) (hR : ∀ x ∈ L, InR n x) {q : Int → Int} (Q : PermL L q) : ∀ (m : Nat) (p : Int → Int), PermL L p → mvL L p = m →
    cN L (stp L p) + cN L (stp L q) + cN L (stp L fun x => p (q x)) ≤ L.length + 2 * cN L (stp2 L p q) ∧ (cN L (stp L p) + cN L (stp L q) + cN L (stp L fun x => p (q x))) % 2 = L.length % 2 := by
  intro m
  induction m using Nat.strongRecOn with
  | _ m ih =>
    intro p P hm
    by_cases c : ∀ x ∈ L, p x = x
    · have e1 : cN L (stp L fun x => p (q x)) = cN L (stp L q) := cN_congr fun x _ y _ => by
        have : ∀ x y, stp L (fun x => p (q x)) x y ↔ stp L q x y := stp_congr fun x hx => c _ (Q.into x hx)
        exact ⟨fun e => e.mono fun x y r => .step ((this x y).mp r), fun e => e.mono fun x y r => .step ((this x y).mpr r)⟩
      have e2 : cN L (stp2 L p q) = cN L (stp L q) := cN_congr fun x _ y _ => ⟨fun e => e.mono fun x y r => by
        rcases r with ⟨hx, rfl⟩ | r
        · rw [c x hx]; exact .refl x
        · exact .step r, fun e => e.mono fun x y r => .step (.inr r)⟩
      rw [cN_id c, e1, e2]
      omega
    · obtain ⟨x, hx, nx⟩ : ∃ x, x ∈ L ∧ p x ≠ x := Classical.byContradiction fun z => c fun x hx => Classical.byContradiction fun w => z ⟨x, hx, w⟩
      have hpx := P.into x hx
      have ne : p x ≠ x := nx
      have P' := P.sw hpx hx
      have PQ := P.comp Q
      have P'Q := P'.comp Q
      have fix : sw (p x) x (p x) = x := sw_l _ _
      have same : ∀ y, p y = y → y ∈ L → sw (p x) x (p y) = y := fun y e hy => by
        rw [e]
        refine sw_n (fun z => ?_) (fun z => ?_)
        · subst z
          exact nx (P.inj _ hpx _ hx e)
        · subst z; exact nx e
      have lt : mvL L (fun y => sw (p x) x (p y)) < m := by
        rw [← hm]
        unfold mvL
        have : (L.filter fun y => decide (sw (p x) x (p y) ≠ y)).length + 1 ≤ (L.filter fun y => decide (p y ≠ y)).length := by
          have f1 := filt_one (L := L) nd (p := fun y => decide (p y ≠ y)) (q := fun y => decide (p y ≠ y) && decide (y ≠ x)) (B := x) hx (by simpa using nx) (fun y _ => by simp)
          rw [f1]
          have : (L.filter fun y => decide (sw (p x) x (p y) ≠ y)).length ≤ (L.filter fun y => decide (p y ≠ y) && decide (y ≠ x)).length := by
            refine nd_sub (nd.sublist List.filter_sublist) fun y hy => ?_
            rw [List.mem_filter, decide_eq_true_iff] at hy
            rw [List.mem_filter, Bool.and_eq_true, decide_eq_true_iff, decide_eq_true_iff]
            refine ⟨hy.1, fun e => hy.2 (same y e hy.1), fun e => ?_⟩
            subst e
            exact hy.2 fix
          omega
        exact this
      obtain ⟨h1, h2⟩ := ih _ lt _ P' rfl
      have sc1 := (sw_count nd hR P hpx hx ne).1 (EG.symm (.step ⟨hx, rfl⟩))
      have ab := sw_count nd hR PQ hpx hx ne
      have j2 : ∀ u v, EG (jn (stp2 L (fun y => sw (p x) x (p y)) q) (p x) x) u v ↔ EG (stp2 L p q) u v := by
        have pxx : EG (stp2 L p q) (p x) x := .symm (.step (.inl ⟨hx, rfl⟩))
        have swE : ∀ {R : Int → Int → Prop}, EG R (p x) x → ∀ z : Int, EG R z (sw (p x) x z) := fun k z => by
          by_cases h : z = p x
          · rw [h, sw_l]; exact k
          · by_cases w : z = x
            · rw [w, sw_r]; exact k.symm
            · rw [sw_n h w]; exact .refl _
        intro u v
        constructor
        · intro e
          refine e.mono fun u v r => ?_
          rcases r with (⟨hu, rfl⟩ | r) | ⟨rfl, rfl⟩
          · exact (EG.step (.inl ⟨hu, rfl⟩)).trans (swE pxx _)
          · exact .step (.inr r)
          · exact pxx
        · intro e
          refine e.mono fun u v r => ?_
          rcases r with ⟨hu, rfl⟩ | r
          · exact (EG.step (.inl (.inl ⟨hu, rfl⟩))).trans (swE (.step (.inr ⟨rfl, rfl⟩)) _).symm
          · exact .step (.inl (.inr r))
      have cj : cN L (jn (stp2 L (fun y => sw (p x) x (p y)) q) (p x) x) = cN L (stp2 L p q) := cN_congr fun u _ v _ => j2 u v
      by_cases k : EG (stp2 L (fun y => sw (p x) x (p y)) q) (p x) x
      · rw [cN_joined k] at cj
        by_cases w : EG (stp L fun y => p (q y)) (p x) x
        · have := ab.1 w
          omega
        · have := ab.2 w
          omega
      · have e := cN_join nd hR hpx hx k
        rw [cj] at e
        have w : EG (stp L fun y => p (q y)) (p x) x := Classical.byContradiction fun w => by
          have j := sw_apart hR PQ hpx hx ne w
          refine k (j.mono fun u v r => ?_)
          obtain ⟨hu, rfl⟩ := r
          exact (EG.step (.inr ⟨hu, rfl⟩)).trans (.step (.inl ⟨Q.into u hu, rfl⟩))
        have := ab.1 w
        omega
end Hs
set_option Elab.async false
set_option linter.all false
set_option maxRecDepth 100000
namespace Hs
open PySem L2
theorem filt_split (L : List Int) (p c : Int → Bool) : (L.filter p).length = (L.filter fun x => p x && c x).length + (L.filter fun x => p x && !c x).length := by
  induction L with
  | nil => rfl
  | cons a t ih =>
    cases hp : p a <;> cases hc : c a <;> simp [hp, hc, ih] <;> omega
theorem numA {A : List Int} {g : Int → List Int} (pw : A.Pairwise (· < ·)) (P : Parted A g) {row : List Int} (hd : ∀ h ∈ A, (g h).headD 0 ∈ row ↔ h ∈ row) :
    numW (onceF g [] A) row = ((A.filter fun h => decide (∀ x ∈ g h, h ≤ x) && decide (h ∈ row)).length : Int) := by
  have hm : ∀ h x, x ∈ A.filter (fun x => decide (x ∈ g h)) ↔ x ∈ A ∧ x ∈ g h := fun h x => by rw [List.mem_filter, decide_eq_true_iff]
  have rep : ∀ h ∈ A, (A.filter fun x => decide (x ∈ g h)).headD h ∈ A ∧ (A.filter fun x => decide (x ∈ g h)).headD h ∈ g h ∧ ∀ x ∈ g h, (A.filter fun x => decide (x ∈ g h)).headD h ≤ x := fun h hh => by
    obtain ⟨c1, c2, c3⟩ := P.cls h hh
    have h0 := (hm h h).mpr ⟨hh, c1⟩
    have pw' := pw.sublist (List.filter_sublist (p := fun x => decide (x ∈ g h)))
    have hm' := hm h
    cases e : A.filter (fun x => decide (x ∈ g h)) with
    | nil => rw [e] at h0; cases h0
    | cons a r =>
      rw [e] at pw' hm'
      obtain ⟨p1, _⟩ := List.pairwise_cons.mp pw'
      obtain ⟨i1, i2⟩ := (hm' a).mp List.mem_cons_self
      refine ⟨i1, i2, fun x hx => ?_⟩
      rcases List.mem_cons.mp ((hm' x).mpr ⟨(c3 x hx).1, hx⟩) with rfl | z
      · exact Int.le_refl _
      · exact Int.le_of_lt (p1 x z)
  generalize er : (fun h => (A.filter fun x => decide (x ∈ g h)).headD h) = rp at *
  have rep : ∀ h ∈ A, rp h ∈ A ∧ rp h ∈ g h ∧ ∀ x ∈ g h, rp h ≤ x := fun h hh => by rw [← er]; exact rep h hh
  have one : ∀ h ∈ A, ∀ x ∈ g h, rp x = rp h := fun h hh x hx => by
    obtain ⟨k1, k2⟩ := (P.cls h hh).2.2 x hx
    have a := (rep x k1).2.2 _ ((k2 _).mpr (rep h hh).2.1)
    have b := (rep h hh).2.2 _ ((k2 _).mp (rep x k1).2.1)
    omega
  have io : ∀ h ∈ A, ∀ x ∈ A, x ∈ g h ↔ rp x = rp h := fun h hh x hx => by
    refine ⟨one h hh x, fun e => ?_⟩
    have m : rp h ∈ g x := by rw [← e]; exact (rep x hx).2.1
    have s := ((P.cls x hx).2.2 _ m).2
    have s2 := ((P.cls h hh).2.2 _ (rep h hh).2.1).2
    exact (s2 x).mp ((s x).mpr (P.cls x hx).1)
  have hon := once_rep (g := g) (rep := rp) (R := (· ∈ A)) (fun x hx => ⟨(rep x hx).1, one x hx _ (rep x hx).2.1, (rep x hx).2.2 x (P.cls x hx).1⟩)
    (fun h hh e x => ⟨fun z => ⟨((P.cls h hh).2.2 x z).1, by rw [one h hh x z, e]⟩, fun z => (io h hh x z.1).mpr (by rw [z.2, e])⟩) A [] pw (fun h hh => hh) (fun h hh => ⟨fun z => (by cases z), fun z => absurd (rep h hh).1 z⟩)
  rw [hon]
  unfold numW
  rw [List.filter_map, List.length_map, List.filter_filter]
  congr 2
  refine List.filter_congr fun h hh => ?_
  show (decide ((g h).headD 0 ∈ row) && decide (rp h = h)) = _
  have e1 : decide ((g h).headD 0 ∈ row) = decide (h ∈ row) := decide_eq_decide.mpr (hd h hh)
  have e2 : decide (rp h = h) = decide (∀ x ∈ g h, h ≤ x) := decide_eq_decide.mpr ⟨fun e x hx => by have := (rep h hh).2.2 x hx; omega, fun k => by
    have := k _ (rep h hh).2.1
    have := (rep h hh).2.2 h (P.cls h hh).1
    omega⟩
  rw [e1, e2, Bool.and_comm]
open Classical in
theorem cN_cls {row : List Int} {p : Int → Int} {g : Int → List Int} (P : Parted row g) (h1 : ∀ x ∈ row, p x ∈ g x) (h2 : ∀ h ∈ row, ∀ x ∈ g h, EG (stp row p) h x) :
    cN row (stp row p) = (row.filter fun h => decide (∀ x ∈ g h, h ≤ x)).length := by
  unfold cN
  congr 1
  refine List.filter_congr fun h hh => ?_
  rw [decide_eq_decide]
  have cl : ∀ x y, stp row p x y → (x ∈ g h ↔ y ∈ g h) := by
    rintro x y ⟨hx, rfl⟩
    have k := h1 x hx
    obtain ⟨k1, k2⟩ := (P.cls x hx).2.2 _ k
    constructor
    · intro z
      exact (((P.cls h hh).2.2 x z).2 _).mp k
    · intro z
      have := ((P.cls h hh).2.2 _ z).2
      exact (this x).mp ((k2 x).mpr (P.cls x hx).1)
  constructor
  · intro k x hx
    exact k x ((P.cls h hh).2.2 x hx).1 (h2 h hh x hx)
  · intro k x hx e
    exact k x ((e.closed cl).mp (P.cls h hh).1)
open Classical in
theorem cN_one {L : List Int} {n : Nat} (nd : L.Nodup) (hR : ∀ x ∈ L, InR n x) {R : Int → Int → Prop} {a : Int} (ha : a ∈ L) (con : ∀ x ∈ L, EG R a x) : cN L R ≤ 1 := by
  obtain ⟨m, hm, em, lm⟩ := least_ex hR (R := R) ha
  unfold cN
  refine nd_sub (b := [m]) (nd.sublist List.filter_sublist) fun x hx => ?_
  obtain ⟨hx1, hx2⟩ := List.mem_filter.mp hx
  have hx2 := of_decide_eq_true hx2
  have c1 := con x hx1
  have h1 := hx2 m hm (c1.symm.trans em)
  have h2 := lm x hx1 (em.symm.trans c1)
  rw [List.mem_singleton]; omega
section
variable {on : List Int} {ms : List (Option Int)} (S : SkinOk on ms)
def sgm (on : List Int) (ms : List (Option Int)) (h : Int) : Int := (lefM on ms h).getD (fstK on ms h)
def alp (on : List Int) (ms : List (Option Int)) (h : Int) : Int := (lkM ms h).getD (fstK on ms (lk on h))
def gAl (on : List Int) (ms : List (Option Int)) (h : Int) : List Int := match lkM ms h with
  | some m => [h, m]
  | none => rimL on ms h
include S
theorem sgm_on {h : Int} (g : InR on.length h) : sgm on ms (lk on h) = alp on ms h := by
  unfold sgm alp lefM
  rw [S.ahL g]
theorem fst_knot {h : Int} (g : InR on.length h) : fstK on ms h ∈ knotL on ms h := by
  obtain ⟨r, e⟩ := (S.knot g).1.head
  rw [e]; exact List.mem_cons_self
theorem rch_left {h y : Int} (g : InR on.length h) (e : lefM on ms h = some y) : Rch on ms h y := by
  have r := S.onBack (S.ahR g)
  rw [S.lkA g] at r
  exact r.mate e
theorem knot_rch {h : Int} (g : InR on.length h) : ∀ z ∈ knotL on ms h, Rch on ms h z := by
  have t := (S.knot g).1
  have all := t.all (P := fun z => InR on.length z ∧ Rch on ms (fstK on ms h) z) ⟨(S.fst g).1, .self⟩ fun a b hp e => ⟨S.lefR hp.1 e, hp.2.trans (rch_left S hp.1 e)⟩
  have hh := (all h (S.self_knot g)).2.symm S (S.fst g).1
  exact fun z hz => hh.trans (all z hz).2
theorem sgm_knot {h : Int} (g : InR on.length h) : sgm on ms h ∈ knotL on ms h := by
  unfold sgm
  have t := (S.knot g).1
  cases e : lefM on ms h with
  | none => exact fst_knot S g
  | some y =>
    rcases t.into h (S.self_knot g) y e with z | z
    · rw [z]; exact fst_knot S g
    · exact z
theorem sgm_inj {x y : Int} (g : InR on.length x) (k : InR on.length y) (e : sgm on ms x = sgm on ms y) : x = y := by
  unfold sgm at e
  cases ex : lefM on ms x with
  | none =>
    cases ey : lefM on ms y with
    | none => rw [ex, ey] at e; exact S.fst_inj g k ex ey e
    | some v =>
      rw [ex, ey] at e
      have h1 := S.fst_open g ex
      have h2 := S.lefG k ey
      have e : fstK on ms x = v := e
      rw [e, h2] at h1; cases h1
  | some u =>
    cases ey : lefM on ms y with
    | none =>
      rw [ex, ey] at e
      have h1 := S.fst_open k ey
      have h2 := S.lefG g ex
      have e : u = fstK on ms y := e
      rw [← e, h2] at h1; cases h1
    | some v =>
      rw [ex, ey] at e
      have e : u = v := e
      subst e
      exact S.lefI g k ex ey
variable {a : Int} (ga : InR on.length a)
theorem sgm_part : PermL (partL on ms a) (sgm on ms) := by
  refine ⟨fun x hx => ?_, fun x hx y hy e => sgm_inj S (partL_mem.mp hx).1 (partL_mem.mp hy).1 e⟩
  obtain ⟨g, r⟩ := partL_mem.mp hx
  have m := sgm_knot S g
  exact partL_mem.mpr ⟨(S.knot g).2.2.1 _ m, r.trans (knot_rch S g _ m)⟩
theorem lk_part : PermL (partL on ms a) (lk on) := by
  refine ⟨fun x hx => ?_, fun x hx y hy e => S.lkI (partL_mem.mp hx).1 (partL_mem.mp hy).1 e⟩
  obtain ⟨g, r⟩ := partL_mem.mp hx
  exact partL_mem.mpr ⟨S.lkR g, r.next⟩
theorem rim_rch {h : Int} (g : InR on.length h) : ∀ z ∈ rimL on ms h, Rch on ms h z := by
  have t := (S.rim g).1
  have all := t.all (P := fun z => InR on.length z ∧ Rch on ms h z) ⟨g, .self⟩ fun a b hp e => by
    obtain ⟨e1, rfl⟩ := rimF_some S e
    have k := (S.fst_free hp.1 e1).1
    exact ⟨k, hp.2.trans ((Rch.self.next).trans (knot_rch S (S.lkR hp.1) _ (fst_knot S (S.lkR hp.1))))⟩
  exact fun z hz => (all z hz).2
theorem sub_part {g : Int → List Int} (P : Parted (rngL on.length) g) (hr : ∀ h, InR on.length h → ∀ z ∈ g h, Rch on ms h z) : Parted (partL on ms a) g := ⟨fun h hh => by
  obtain ⟨gh, r⟩ := partL_mem.mp hh
  obtain ⟨c1, c2, c3⟩ := P.cls h (rngL_mem.mpr gh)
  exact ⟨c1, c2, fun z hz => ⟨partL_mem.mpr ⟨rngL_mem.mp (c3 z hz).1, r.trans (hr h gh z hz)⟩, (c3 z hz).2⟩⟩⟩
omit S in
theorem filt_part (p : Int → Bool) : ((rngL on.length).filter fun h => p h && decide (h ∈ partL on ms a)).length = ((partL on ms a).filter p).length := by
  classical
  unfold partL
  rw [List.filter_filter]
  congr 1
  refine List.filter_congr fun h hh => ?_
  congr 1
  rw [decide_eq_decide, List.mem_filter, decide_eq_true_iff]
  exact ⟨fun z => z.2, fun z => ⟨hh, z⟩⟩
theorem knots_cN : numW (onceF (knotL on ms) [] (rngL on.length)) (partL on ms a) = (cN (partL on ms a) (stp (partL on ms a) (sgm on ms)) : Int) := by
  have Pk := sub_part S (a := a) S.part_knot fun h g => knot_rch S g
  rw [numA (rngL_lt _) S.part_knot fun h hh => ?_, filt_part, cN_cls Pk (fun x hx => sgm_knot S (partL_mem.mp hx).1) fun h hh x hx => ?_]
  · obtain ⟨g, r⟩ := partL_mem.mp hh
    have t := (S.knot g).1
    have all := t.all (P := fun z => z ∈ partL on ms a ∧ EG (stp (partL on ms a) (sgm on ms)) (fstK on ms h) z) ⟨((Pk.cls h hh).2.2 _ (fst_knot S g)).1, .refl _⟩ fun u v hp e => by
      have : v = sgm on ms u := by unfold sgm; rw [e]; rfl
      subst this
      exact ⟨(sgm_part S).into u hp.1, hp.2.trans (.step ⟨hp.1, rfl⟩)⟩
    exact (all h (S.self_knot g)).2.symm.trans (all x hx).2
  · have g := rngL_mem.mp hh
    obtain ⟨r, e⟩ := (S.knot g).1.head
    rw [e]
    show fstK on ms h ∈ _ ↔ _
    have k := knot_rch S g _ (fst_knot S g)
    rw [partL_mem, partL_mem]
    exact ⟨fun z => ⟨g, z.2.trans (k.symm S g)⟩, fun z => ⟨(S.fst g).1, z.2.trans k⟩⟩
theorem pats_cN : numW (onceF (patL on) [] (rngL on.length)) (partL on ms a) = (cN (partL on ms a) (stp (partL on ms a) (lk on)) : Int) := by
  have Pp := sub_part S (a := a) S.part_pat fun h g z hz => trail_rch (S.pat g).1 z hz
  rw [numA (rngL_lt _) S.part_pat fun h hh => ?_, filt_part, cN_cls Pp (fun x hx => ?_) fun h hh x hx => ?_]
  · have g := (partL_mem.mp hx).1
    rcases (S.pat g).1.into x (S.self_pat g) (lk on x) rfl with z | z
    · rw [z]; exact S.self_pat g
    · exact z
  · obtain ⟨g, r⟩ := partL_mem.mp hh
    have all := (S.pat g).1.all (P := fun z => z ∈ partL on ms a ∧ EG (stp (partL on ms a) (lk on)) h z) ⟨hh, .refl _⟩ fun u v hp e => by
      obtain rfl : lk on u = v := Option.some.inj e
      exact ⟨(lk_part S).into u hp.1, hp.2.trans (.step ⟨hp.1, rfl⟩)⟩
    exact (all x hx).2
  · have g := rngL_mem.mp hh
    obtain ⟨r, e⟩ := (S.pat g).1.head
    rw [e]; exact Iff.rfl
theorem gAl_parted : Parted (partL on ms a) (gAl on ms) := ⟨fun h hh => by
  obtain ⟨g, r⟩ := partL_mem.mp hh
  unfold gAl
  cases e : lkM ms h with
  | some m =>
    obtain ⟨gm, em, nm⟩ := S.mate g e
    refine ⟨List.mem_cons_self, ?_, fun z hz => ?_⟩
    · simp [Ne.symm nm]
    · have : z = h ∨ z = m := by simpa using hz
      rcases this with rfl | rfl
      · exact ⟨hh, fun y => by rw [e]⟩
      · refine ⟨partL_mem.mpr ⟨gm, r.mate e⟩, fun y => ?_⟩
        rw [em]
        simp only [List.mem_cons, List.not_mem_nil, or_false]
        exact or_comm
  | none =>
    have hm : h ∈ (rngL on.length).filter fun h => decide (lkM ms h = none) := List.mem_filter.mpr ⟨rngL_mem.mpr g, decide_eq_true e⟩
    obtain ⟨c1, c2, c3⟩ := S.part_rim.cls h hm
    refine ⟨c1, c2, fun z hz => ⟨partL_mem.mpr ⟨(S.rim_free g e z hz).1, r.trans (rim_rch S g z hz)⟩, fun y => ?_⟩⟩
    rw [(S.rim_free g e z hz).2]
    exact (c3 z hz).2 y⟩
theorem alp_cN : cN (partL on ms a) (stp (partL on ms a) (alp on ms)) = ((partL on ms a).filter fun h => decide (∀ x ∈ gAl on ms h, h ≤ x)).length := by
  have into : ∀ x ∈ partL on ms a, alp on ms x ∈ gAl on ms x := fun x hx => by
    have g := (partL_mem.mp hx).1
    unfold alp gAl
    cases e : lkM ms x with
    | some m => simp
    | none =>
      rcases (S.rim g).1.into x (S.self_rim g) (fstK on ms (lk on x)) (by unfold rimF; rw [if_pos e]) with z | z
      · show fstK on ms (lk on x) ∈ _
        rw [z]; exact S.self_rim g
      · exact z
  refine cN_cls (gAl_parted S) into fun h hh x hx => ?_
  obtain ⟨g, r⟩ := partL_mem.mp hh
  have st : EG (stp (partL on ms a) (alp on ms)) h (alp on ms h) := .step ⟨hh, rfl⟩
  unfold gAl at hx
  unfold alp at st
  cases e : lkM ms h with
  | some m =>
    rw [e] at hx st
    have : x = h ∨ x = m := by simpa using hx
    rcases this with rfl | rfl
    · exact .refl _
    · exact st
  | none =>
    rw [e] at hx
    have all := (S.rim g).1.all (P := fun z => z ∈ partL on ms a ∧ EG (stp (partL on ms a) (alp on ms)) h z) ⟨hh, .refl _⟩ fun u v hp e2 => by
      obtain ⟨e1, rfl⟩ := rimF_some S e2
      have ea : alp on ms u = fstK on ms (lk on u) := by unfold alp; rw [e1]; rfl
      have m := ((gAl_parted S).cls u hp.1).2.2 _ (into u hp.1)
      exact ⟨by rw [← ea]; exact m.1, hp.2.trans (.step ⟨hp.1, ea.symm⟩)⟩
    exact (all x hx).2
theorem rims_num : numW (onceF (rimL on ms) [] ((rngL on.length).filter fun h => decide (lkM ms h = none))) (partL on ms a) = (((partL on ms a).filter fun h => decide (∀ x ∈ gAl on ms h, h ≤ x) && decide (lkM ms h = none)).length : Int) := by
  rw [numA ((rngL_lt _).sublist List.filter_sublist) S.part_rim fun h hh => ?_]
  · rw [List.filter_filter, ← filt_part]
    congr 2
    refine List.filter_congr fun h hh => ?_
    by_cases e : lkM ms h = none
    · have eg : gAl on ms h = rimL on ms h := by unfold gAl; rw [e]
      rw [eg]
      cases decide (∀ x ∈ rimL on ms h, h ≤ x) <;> cases decide (h ∈ partL on ms a) <;> simp [e]
    · simp [e]
  · obtain ⟨hm, _⟩ := List.mem_filter.mp hh
    have g := rngL_mem.mp hm
    obtain ⟨r, e⟩ := (S.rim g).1.head
    rw [e]; exact Iff.rfl
theorem seams_num : numW (seamsF ms on.length) (partL on ms a) = (((partL on ms a).filter fun h => decide (∀ x ∈ gAl on ms h, h ≤ x) && !decide (lkM ms h = none)).length : Int) + (((partL on ms a).filter fun h => decide (lkM ms h = none)).length : Int) := by
  rw [← seams_all S, numA (rngL_lt _) S.part_seam fun h hh => ?_, filt_part]
  · rw [filt_split _ _ (fun h => decide (lkM ms h = none)), Int.natCast_add, Int.add_comm]
    congr 3
    · refine List.filter_congr fun h hh => ?_
      cases e : lkM ms h with
      | none => simp [gAl, gSeam, e]
      | some m =>
        have eq : (∀ x ∈ gSeam ms h, h ≤ x) ↔ ∀ x ∈ gAl on ms h, h ≤ x := by
          unfold gSeam gAl
          rw [e]
          simp only
          split <;> simp [and_comm]
        rw [decide_eq_decide.mpr eq]
    · refine List.filter_congr fun h hh => ?_
      cases e : lkM ms h with
      | none => simp [gSeam, e]
      | some m => simp
  · have g := rngL_mem.mp hh
    unfold gSeam
    cases e : lkM ms h with
    | none => exact Iff.rfl
    | some m =>
      simp only
      have gm := (S.mate g e).1
      have em := (S.mate g e).2.1
      split
      · exact Iff.rfl
      · show m ∈ _ ↔ _
        rw [partL_mem, partL_mem]
        exact ⟨fun z => ⟨g, z.2.mate em⟩, fun z => ⟨gm, z.2.mate e⟩⟩
theorem part_size : (partL on ms a).length = 2 * ((partL on ms a).filter fun h => decide (∀ x ∈ gAl on ms h, h ≤ x) && !decide (lkM ms h = none)).length + ((partL on ms a).filter fun h => decide (lkM ms h = none)).length := by
  have nd : (partL on ms a).Nodup := (partL_lt a).imp fun h => by omega
  have e0 : (partL on ms a).length = ((partL on ms a).filter fun h => decide (lkM ms h = none)).length + ((partL on ms a).filter fun h => !decide (lkM ms h = none)).length := by
    have := filt_split (partL on ms a) (fun _ => true) (fun h => decide (lkM ms h = none))
    rw [List.filter_eq_self.mpr (fun _ _ => rfl)] at this
    simpa only [Bool.true_and] using this
  have e1 := filt_split (partL on ms a) (fun h => !decide (lkM ms h = none)) (fun h => decide (∀ x ∈ gAl on ms h, h ≤ x))
  have sw : ∀ (p q : Int → Bool), (∀ h m, h ∈ partL on ms a → lkM ms h = some m → lkM ms m = some h → m ≠ h → p h = true → q m = true) → (∀ h, p h = true → lkM ms h ≠ none) → ((partL on ms a).filter p).length ≤ ((partL on ms a).filter q).length := by
    intro p q hpq hp
    rw [← List.length_map (as := (partL on ms a).filter p) (fun h => (lkM ms h).getD 0)]
    refine nd_sub ?_ fun x hx => ?_
    · rw [List.nodup_iff_pairwise_ne, List.pairwise_map]
      refine List.Pairwise.imp_of_mem ?_ ((partL_lt a).sublist (List.filter_sublist (p := p)))
      intro u v hu hv lt e
      obtain ⟨u1, u2⟩ := List.mem_filter.mp hu
      obtain ⟨v1, v2⟩ := List.mem_filter.mp hv
      cases eu : lkM ms u with
      | none => exact hp u u2 eu
      | some m =>
        cases ev : lkM ms v with
        | none => exact hp v v2 ev
        | some k =>
          rw [eu, ev] at e
          have e : m = k := e
          subst e
          have h1 := (S.mate (partL_mem.mp u1).1 eu).2.1
          have h2 := (S.mate (partL_mem.mp v1).1 ev).2.1
          rw [h1] at h2
          have := Option.some.inj h2
          omega
    · obtain ⟨h, hh, rfl⟩ := List.mem_map.mp hx
      obtain ⟨h1, h2⟩ := List.mem_filter.mp hh
      obtain ⟨g, r⟩ := partL_mem.mp h1
      cases e : lkM ms h with
      | none => exact absurd e (hp h h2)
      | some m =>
        obtain ⟨gm, em, nm⟩ := S.mate g e
        exact List.mem_filter.mpr ⟨partL_mem.mpr ⟨gm, r.mate e⟩, hpq h m h1 e em nm h2⟩
  have gA : ∀ h m, lkM ms h = some m → ((∀ x ∈ gAl on ms h, h ≤ x) ↔ h ≤ m) := fun h m e => by
    unfold gAl; rw [e]; simp
  have l1 := sw (fun h => !decide (lkM ms h = none) && decide (∀ x ∈ gAl on ms h, h ≤ x)) (fun h => !decide (lkM ms h = none) && !decide (∀ x ∈ gAl on ms h, h ≤ x)) (fun h m _ e em nm k => by
    simp only [Bool.and_eq_true, decide_eq_true_iff, Bool.not_eq_true', decide_eq_false_iff_not] at k ⊢
    rw [gA h m e] at k
    rw [gA m h em, em]
    exact ⟨nofun, by omega⟩) fun h k => by simp at k; exact k.1
  have l2 := sw (fun h => !decide (lkM ms h = none) && !decide (∀ x ∈ gAl on ms h, h ≤ x)) (fun h => !decide (lkM ms h = none) && decide (∀ x ∈ gAl on ms h, h ≤ x)) (fun h m _ e em nm k => by
    simp only [Bool.and_eq_true, decide_eq_true_iff, Bool.not_eq_true', decide_eq_false_iff_not] at k ⊢
    rw [gA h m e] at k
    rw [gA m h em, em]
    exact ⟨nofun, by omega⟩) fun h k => by simp at k; exact k.1
  have e2 : ((partL on ms a).filter fun h => decide (∀ x ∈ gAl on ms h, h ≤ x) && !decide (lkM ms h = none)).length = ((partL on ms a).filter fun h => !decide (lkM ms h = none) && decide (∀ x ∈ gAl on ms h, h ≤ x)).length := by
    congr 1
    exact List.filter_congr fun h _ => Bool.and_comm ..
  rw [e2]
  omega
include ga in
theorem euler_part : ∃ g : Nat, numW (onceF (knotL on ms) [] (rngL on.length)) (partL on ms a) - numW (seamsF ms on.length) (partL on ms a) + numW (onceF (patL on) [] (rngL on.length)) (partL on ms a) + numW (onceF (rimL on ms) [] ((rngL on.length).filter fun h => decide (lkM ms h = none))) (partL on ms a) = 2 - 2 * (g : Int) := by
  have nd : (partL on ms a).Nodup := (partL_lt a).imp fun h => by omega
  have hR : ∀ x ∈ partL on ms a, InR on.length x := fun x hx => (partL_mem.mp hx).1
  obtain ⟨E, Pa⟩ := euler nd hR (lk_part S (a := a)) _ _ (sgm_part S (a := a)) rfl
  have e3 : cN (partL on ms a) (stp (partL on ms a) fun x => sgm on ms (lk on x)) = cN (partL on ms a) (stp (partL on ms a) (alp on ms)) := cN_congr fun x _ y _ => by
    have : ∀ x y, stp (partL on ms a) (fun x => sgm on ms (lk on x)) x y ↔ stp (partL on ms a) (alp on ms) x y := stp_congr fun x hx => sgm_on S (hR x hx)
    exact ⟨fun e => e.mono fun x y r => .step ((this x y).mp r), fun e => e.mono fun x y r => .step ((this x y).mpr r)⟩
  have e4 : cN (partL on ms a) (stp2 (partL on ms a) (sgm on ms) (lk on)) ≤ 1 := by
    have ha : a ∈ partL on ms a := partL_mem.mpr ⟨ga, .self⟩
    have con : ∀ x, Rch on ms a x → EG (stp2 (partL on ms a) (sgm on ms) (lk on)) a x := fun x r => by
      induction r with
      | self => exact .refl _
      | next r ih => exact ih.trans (.step (.inr ⟨partL_mem.mpr ⟨r.rng S ga, r⟩, rfl⟩))
      | @mate x m r e ih =>
        have hx := partL_mem.mpr ⟨r.rng S ga, r⟩
        have hl := (lk_part S (a := a)).into x hx
        refine ih.trans ((EG.step (.inr ⟨hx, rfl⟩)).trans (.step (.inl ⟨hl, ?_⟩)))
        rw [sgm_on S (r.rng S ga)]
        unfold alp; rw [e]; rfl
    exact cN_one nd hR ha fun x hx => con x (partL_mem.mp hx).2
  have z := filt_split (partL on ms a) (fun h => decide (∀ x ∈ gAl on ms h, h ≤ x)) (fun h => decide (lkM ms h = none))
  rw [e3, alp_cN S, z] at E Pa
  rw [part_size S] at E Pa
  rw [knots_cN S, pats_cN S, rims_num S, seams_num S]
  generalize cN (partL on ms a) (stp (partL on ms a) (sgm on ms)) = kn at *
  generalize cN (partL on ms a) (stp (partL on ms a) (lk on)) = pt at *
  generalize ((partL on ms a).filter fun h => decide (∀ x ∈ gAl on ms h, h ≤ x) && decide (lkM ms h = none)).length = rm at *
  generalize ((partL on ms a).filter fun h => decide (∀ x ∈ gAl on ms h, h ≤ x) && !decide (lkM ms h = none)).length = mm at *
  generalize ((partL on ms a).filter fun h => decide (lkM ms h = none)).length = uu at *
  exact ⟨(2 + mm + uu - kn - pt - rm) / 2, by omega⟩
end
end Hs
set_option Elab.async false
set_option linter.all false
set_option maxRecDepth 100000
set_option maxHeartbeats 1000000
namespace Hs
open PySem L2
def finOn (on : List Int) : List Int := (rngL (4 * on.length)).map (onAt on 1)
def finMs (on : List Int) (ms : List (Option Int)) : List (Option Int) := (rngL (4 * on.length)).map (mtAt on ms 1)
theorem rngL_at {m : Nat} {x : Int} (g : InR m x) : (rngL m)[x.toNat]? = some x := by
  have e := rngL_get (n := m) (i := x.toNat) (by unfold InR at g; omega)
  rw [e]; unfold InR at g; congr 1; omega
theorem lk_rngmap {m : Nat} {f : Int → Int} {x : Int} (g : InR m x) : lk ((rngL m).map f) x = f x := by
  unfold lk
  rw [List.getD_eq_getElem?_getD, List.getElem?_map, rngL_at g]; rfl
theorem lkM_rngmap {m : Nat} {f : Int → Option Int} {x : Int} (g : InR m x) : lkM ((rngL m).map f) x = f x := by
  unfold lkM
  rw [List.getElem?_map, rngL_at g]; rfl
theorem fin_lk {on : List Int} {x : Int} (g : InR (4 * on.length) x) : lk (finOn on) x = onAt on 1 x := lk_rngmap g
theorem fin_lkM {on : List Int} {ms : List (Option Int)} {x : Int} (g : InR (4 * on.length) x) : lkM (finMs on ms) x = mtAt on ms 1 x := lkM_rngmap g
section
variable {on : List Int} {ms : List (Option Int)} (S : SkinOk on ms)
include S
end
theorem EG.map {r r' : Int → Int → Prop} {φ : Int → Int} (fr : ∀ x y, r x y → EG r' (φ x) (φ y)) {x y : Int} (e : EG r x y) : EG r' (φ x) (φ y) := by
  induction e with
  | refl x => exact .refl _
  | step h => exact fr _ _ h
  | symm _ ih => exact ih.symm
  | trans _ _ i1 i2 => exact i1.trans i2
theorem cN_le {L L' : List Int} {n' : Nat} {r r' : Int → Int → Prop} (nd : L.Nodup) (hR : ∀ x ∈ L', InR n' x) {φ : Int → Int} (hφ : ∀ x ∈ L, φ x ∈ L') (rf : ∀ x ∈ L, ∀ y ∈ L, EG r' (φ x) (φ y) → EG r x y) : cN L r ≤ cN L' r' := by
  classical
  have hex : ∀ x, ∃ m, x ∈ L → m ∈ L' ∧ EG r' (φ x) m ∧ ∀ y ∈ L', EG r' m y → m ≤ y := fun x => by
    by_cases h : x ∈ L
    · obtain ⟨m, a, b, c⟩ := least_ex hR (R := r') (hφ x h)
      exact ⟨m, fun _ => ⟨a, b, c⟩⟩
    · exact ⟨0, fun z => absurd z h⟩
  obtain ⟨f, hf⟩ := Classical.axiomOfChoice hex
  unfold cN
  rw [← List.length_map (as := L.filter fun h => decide (∀ x ∈ L, EG r h x → h ≤ x)) f]
  refine nd_sub ?_ fun x hx => ?_
  · rw [List.nodup_iff_pairwise_ne, List.pairwise_map]
    refine List.Pairwise.imp_of_mem ?_ (nd.sublist List.filter_sublist)
    intro a b ha hb ne e
    obtain ⟨ha1, ha2⟩ := List.mem_filter.mp ha
    obtain ⟨hb1, hb2⟩ := List.mem_filter.mp hb
    have ha2 := of_decide_eq_true ha2
    have hb2 := of_decide_eq_true hb2
    have fa := (hf a ha1).2.1
    have fb := (hf b hb1).2.1
    rw [← e] at fb
    have r := rf a ha1 b hb1 (fa.trans fb.symm)
    have := ha2 b hb1 r
    have := hb2 a ha1 r.symm
    exact ne (by omega)
  · obtain ⟨h, hh, rfl⟩ := List.mem_map.mp hx
    have h1 := (List.mem_filter.mp hh).1
    obtain ⟨a, _, c⟩ := hf h h1
    exact List.mem_filter.mpr ⟨a, decide_eq_true c⟩
theorem cN_iso {L L' : List Int} {n n' : Nat} {r r' : Int → Int → Prop} (nd : L.Nodup) (nd' : L'.Nodup) (hR : ∀ x ∈ L, InR n x) (hR' : ∀ x ∈ L', InR n' x) (φ ψ : Int → Int) (hφ : ∀ x ∈ L, φ x ∈ L') (hψ : ∀ x ∈ L', ψ x ∈ L)
    (fr : ∀ x y, r x y → EG r' (φ x) (φ y)) (br : ∀ x y, r' x y → EG r (ψ x) (ψ y)) (a : ∀ x ∈ L, EG r (ψ (φ x)) x) (b : ∀ x ∈ L', EG r' (φ (ψ x)) x) : cN L r = cN L' r' :=
  Nat.le_antisymm (cN_le nd hR' hφ fun x hx y hy e => ((a x hx).symm.trans (e.map br)).trans (a y hy)) (cN_le nd' hR hψ fun x hx y hy e => ((b x hx).symm.trans (e.map fr)).trans (b y hy))
theorem cN_ids (L : List Int) (r : Int → Int → Prop) (h : ∀ x y, r x y → x = y) : cN L r = L.length := by
  classical
  have h' : ∀ {x y}, EG r x y → x = y := fun {x y} e => by
    induction e with
    | refl x => rfl
    | step k => exact h _ _ k
    | symm _ ih => exact ih.symm
    | trans _ _ i1 i2 => exact i1.trans i2
  unfold cN
  rw [List.filter_eq_self.mpr]
  intro a _
  refine decide_eq_true fun x _ e => ?_
  rw [h' e]; exact Int.le_refl _
def pL (on : List Int) (ms : List (Option Int)) (h : Int) : Int := (lefM on ms h).getD h
def pR (on : List Int) (ms : List (Option Int)) (h : Int) : Int := fstK on ms (lk on h)
section
variable {on : List Int} {ms : List (Option Int)} (S : SkinOk on ms)
include S
variable {a : Int} (ga : InR on.length a)
theorem pL_knot {h : Int} (g : InR on.length h) : pL on ms h ∈ knotL on ms h := by
  unfold pL
  have t := (S.knot g).1
  cases e : lefM on ms h with
  | none => exact S.self_knot g
  | some y =>
    rcases t.into h (S.self_knot g) y e with z | z
    · rw [z]; exact fst_knot S g
    · exact z
theorem pL_part {x : Int} (hx : x ∈ partL on ms a) : pL on ms x ∈ partL on ms a := by
  obtain ⟨g, r⟩ := partL_mem.mp hx
  have m := pL_knot S g
  exact partL_mem.mpr ⟨(S.knot g).2.2.1 _ m, r.trans (knot_rch S g _ m)⟩
theorem knots_pL : numW (onceF (knotL on ms) [] (rngL on.length)) (partL on ms a) = (cN (partL on ms a) (stp (partL on ms a) (pL on ms)) : Int) := by
  have Pk := sub_part S (a := a) S.part_knot fun h g => knot_rch S g
  rw [numA (rngL_lt _) S.part_knot fun h hh => ?_, filt_part, cN_cls Pk (fun x hx => pL_knot S (partL_mem.mp hx).1) fun h hh x hx => ?_]
  · obtain ⟨g, r⟩ := partL_mem.mp hh
    have t := (S.knot g).1
    have all := t.all (P := fun z => z ∈ partL on ms a ∧ EG (stp (partL on ms a) (pL on ms)) (fstK on ms h) z) ⟨((Pk.cls h hh).2.2 _ (fst_knot S g)).1, .refl _⟩ fun u v hp e => by
      have : v = pL on ms u := by unfold pL; rw [e]; rfl
      subst this
      exact ⟨pL_part S hp.1, hp.2.trans (.step ⟨hp.1, rfl⟩)⟩
    exact (all h (S.self_knot g)).2.symm.trans (all x hx).2
  · have g := rngL_mem.mp hh
    obtain ⟨r, e⟩ := (S.knot g).1.head
    rw [e]
    show fstK on ms h ∈ _ ↔ _
    have k := knot_rch S g _ (fst_knot S g)
    rw [partL_mem, partL_mem]
    exact ⟨fun z => ⟨g, z.2.trans (k.symm S g)⟩, fun z => ⟨(S.fst g).1, z.2.trans k⟩⟩
theorem rims_pR : numW (onceF (rimL on ms) [] ((rngL on.length).filter fun h => decide (lkM ms h = none))) (partL on ms a) = (cN ((partL on ms a).filter fun h => decide (lkM ms h = none)) (stp ((partL on ms a).filter fun h => decide (lkM ms h = none)) (pR on ms)) : Int) := by
  have mU : ∀ x, x ∈ (partL on ms a).filter (fun h => decide (lkM ms h = none)) ↔ (InR on.length x ∧ Rch on ms a x) ∧ lkM ms x = none := fun x => by rw [List.mem_filter, partL_mem, decide_eq_true_iff]
  have PU : Parted ((partL on ms a).filter fun h => decide (lkM ms h = none)) (rimL on ms) := ⟨fun h hh => by
    obtain ⟨⟨g, r⟩, e⟩ := (mU h).mp hh
    have hm : h ∈ (rngL on.length).filter fun h => decide (lkM ms h = none) := List.mem_filter.mpr ⟨rngL_mem.mpr g, decide_eq_true e⟩
    obtain ⟨c1, c2, c3⟩ := S.part_rim.cls h hm
    exact ⟨c1, c2, fun z hz => ⟨(mU z).mpr ⟨⟨(S.rim_free g e z hz).1, r.trans (rim_rch S g z hz)⟩, (S.rim_free g e z hz).2⟩, (c3 z hz).2⟩⟩⟩
  have stp_rim : ∀ x, InR on.length x → lkM ms x = none → rimF on ms x = some (pR on ms x) := fun x _ e => by unfold rimF; rw [if_pos e]; rfl
  have inR : ∀ x ∈ (partL on ms a).filter (fun h => decide (lkM ms h = none)), pR on ms x ∈ rimL on ms x := fun x hx => by
    obtain ⟨⟨g, r⟩, e⟩ := (mU x).mp hx
    rcases (S.rim g).1.into x (S.self_rim g) _ (stp_rim x g e) with z | z
    · rw [z]; exact S.self_rim g
    · exact z
  rw [rims_num S, cN_cls PU inR fun h hh x hx => ?_, List.filter_filter]
  · congr 2
    refine List.filter_congr fun h hh => ?_
    by_cases e : lkM ms h = none
    · have eg : gAl on ms h = rimL on ms h := by unfold gAl; rw [e]
      rw [eg]
    · simp [e]
  · obtain ⟨⟨g, r⟩, e⟩ := (mU h).mp hh
    have all := (S.rim g).1.all (P := fun z => z ∈ (partL on ms a).filter (fun h => decide (lkM ms h = none)) ∧ EG (stp ((partL on ms a).filter fun h => decide (lkM ms h = none)) (pR on ms)) h z) ⟨hh, .refl _⟩ fun u v hp e2 => by
      obtain ⟨e1, rfl⟩ := rimF_some S e2
      exact ⟨((PU.cls u hp.1).2.2 _ (inR u hp.1)).1, hp.2.trans (.step ⟨hp.1, rfl⟩)⟩
    exact (all x hx).2
theorem fst_only {y z : Int} (g : InR on.length y) (hz : z ∈ knotL on ms y) (e : lkM ms z = none) : z = fstK on ms y := by
  rcases (S.knot g).1.from z hz with h | ⟨w, hw, ew⟩
  · exact h
  · have := S.lefG ((S.knot g).2.2.1 w hw) ew
    unfold rigM at this
    rw [e] at this; cases this
end
end Hs
set_option Elab.async false
set_option linter.all false
set_option maxRecDepth 100000
set_option maxHeartbeats 1000000
namespace Hs
open PySem L2
section
variable {on : List Int} {ms : List (Option Int)} (S : SkinOk on ms) (T : SkinOk (finOn on) (finMs on ms))
include S T
theorem q1 {x : Int} (g : InR (4 * on.length) x) : Rch (finOn on) (finMs on ms) x (onAt on 1 x) := by
  have := Rch.next (on := finOn on) (ms := finMs on ms) (Rch.self (h := x))
  rw [fin_lk g] at this; exact this
theorem qm {x m : Int} (g : InR (4 * on.length) x) (e : mtAt on ms 1 x = some m) : Rch (finOn on) (finMs on ms) x m := Rch.mate .self (by rw [fin_lkM g]; exact e)
variable {a : Int} (ga : InR on.length a)
include ga
end
end Hs
set_option Elab.async false
set_option linter.all false
set_option maxRecDepth 100000
set_option maxHeartbeats 1000000
namespace Hs
open PySem L2
section
variable {on : List Int} {ms : List (Option Int)} (S : SkinOk on ms) (T : SkinOk (finOn on) (finMs on ms))
include S T
variable {a : Int} (ga : InR on.length a)
include ga
end
end Hs
set_option Elab.async false
set_option linter.all false
set_option maxRecDepth 100000
set_option maxHeartbeats 1000000
namespace Hs
open PySem L2
noncomputable def rowL (on : List Int) (ms : List (Option Int)) : List Int → List Int := cntL (onceF (knotL on ms) [] (rngL on.length)) (seamsF ms on.length) (onceF (patL on) [] (rngL on.length)) (onceF (rimL on ms) [] ((rngL on.length).filter fun h => decide (lkM ms h = none)))
noncomputable def repsL (on : List Int) (ms : List (Option Int)) : List Int := (rngL on.length).filter fun h => decide (repP on ms h = h)
section
variable {on : List Int} {ms : List (Option Int)} (S : SkinOk on ms)
include S
theorem parts_reps : partsL on ms = (repsL on ms).map (partL on ms) := S.parts_map
variable (T : SkinOk (finOn on) (finMs on ms))
include T
end
end Hs
set_option Elab.async false
set_option linter.all false
set_option maxRecDepth 100000
set_option maxHeartbeats 1000000
namespace Hs
open PySem L2
theorem ndR (n : Nat) : (rngL n).Nodup := (rngL_lt n).imp fun h => by omega
section
variable {on : List Int} {ms : List (Option Int)} (S : SkinOk on ms) (con : ∀ x, InR on.length x → Rch on ms 0 x)
include S con
theorem one_part : partL on ms 0 = rngL on.length := pw_ext (partL_lt 0) (rngL_lt _) fun x => by
  rw [partL_mem, rngL_mem]
  exact ⟨fun z => z.1, fun z => ⟨z, con x z⟩⟩
theorem one_in : InR on.length 0 := by have := S.pos; unfold InR; omega
theorem one_reps : repsL on ms = [0] := by
  have g0 := one_in S con
  refine pw_ext ((rngL_lt _).sublist List.filter_sublist) (List.pairwise_singleton _ _) fun x => ?_
  unfold repsL
  rw [List.mem_filter, rngL_mem, decide_eq_true_iff, List.mem_singleton]
  constructor
  · rintro ⟨g, e⟩
    have h := (S.rep g).2.2 0 g0 ((con x g).symm S g0)
    rw [e] at h
    unfold InR at g; omega
  · rintro rfl
    refine ⟨g0, ?_⟩
    have h := S.rep g0
    have h1 := h.2.2 0 g0 .self
    have h2 := h.1
    unfold InR at h2; omega
theorem one_parts : partsL on ms = [rngL on.length] := by
  rw [parts_reps S, one_reps S con]
  show [partL on ms 0] = _
  rw [one_part S con]
theorem one_row {k p u r : Nat} (hk : cN (rngL on.length) (stp (rngL on.length) (pL on ms)) = k) (hp : cN (rngL on.length) (stp (rngL on.length) (lk on)) = p) (hu : ((rngL on.length).filter fun h => decide (lkM ms h = none)).length = u)
    (hr : cN ((rngL on.length).filter fun h => decide (lkM ms h = none)) (stp ((rngL on.length).filter fun h => decide (lkM ms h = none)) (pR on ms)) = r) :
    ∃ (s : Int) (g : Nat), rowL on ms (rngL on.length) = [(k : Int), s, (p : Int), (r : Int), (g : Int)] ∧ 2 * s = (on.length : Int) + u ∧ (k : Int) - s + p + r = 2 - 2 * g := by
  have g0 := one_in S con
  have e := one_part S con
  have k1 := knots_pL S (a := 0)
  have p1 := pats_cN S (a := 0)
  have r1 := rims_pR S (a := 0)
  have s1 := seams_num S (a := 0)
  have z1 := part_size S (a := 0)
  obtain ⟨g, eu⟩ := euler_part S g0
  rw [e] at k1 p1 r1 s1 z1 eu
  rw [hk] at k1
  rw [hp] at p1
  rw [hr] at r1
  rw [hu] at s1 z1
  rw [rngL_len] at z1
  refine ⟨numW (seamsF ms on.length) (rngL on.length), g, ?_, ?_, ?_⟩
  · unfold rowL cntL
    rw [k1, p1, r1] at eu ⊢
    congr 5
    unfold hndL
    omega
  · rw [s1]; omega
  · rw [← k1, ← p1, ← r1]; exact eu
end
structure Iso (on : List Int) (ms : List (Option Int)) (on' : List Int) (ms' : List (Option Int)) (π ρ : Int → Int) : Prop where
  len : on'.length = on.length
  pi : ∀ x, InR on.length x → InR on.length (π x) ∧ ρ (π x) = x
  rho : ∀ x, InR on.length x → InR on.length (ρ x) ∧ π (ρ x) = x
  onE : ∀ x, InR on.length x → lk on' (π x) = π (lk on x)
  msE : ∀ x, InR on.length x → lkM ms' (π x) = (lkM ms x).map π
section
variable {on : List Int} {ms : List (Option Int)} {on' : List Int} {ms' : List (Option Int)} {π ρ : Int → Int} (S : SkinOk on ms) (T : SkinOk on' ms') (I : Iso on ms on' ms' π ρ)
include S T I
theorem Iso.inr {x : Int} : InR on'.length x ↔ InR on.length x := by rw [I.len]
theorem Iso.ahd {x : Int} (g : InR on.length x) : ahd on' (π x) = π (ahd on x) := by
  have ga := S.ahR g
  have e := I.onE _ ga
  rw [S.lkA g] at e
  rw [← e]
  exact T.ahL ((I.inr S T).mpr (I.pi _ ga).1)
theorem Iso.lef {x : Int} (g : InR on.length x) : lefM on' ms' (π x) = (lefM on ms x).map π := by
  unfold lefM
  rw [I.ahd S T g, I.msE _ (S.ahR g)]
theorem Iso.pL {x : Int} (g : InR on.length x) : Hs.pL on' ms' (π x) = π (Hs.pL on ms x) := by
  unfold Hs.pL
  rw [I.lef S T g]
  cases lefM on ms x <;> rfl
theorem Iso.rch {x y : Int} (g : InR on.length x) (r : Rch on ms x y) : Rch on' ms' (π x) (π y) := by
  induction r with
  | self => exact .self
  | @next y r ih =>
    have := Rch.next ih
    rw [I.onE _ (r.rng S g)] at this; exact this
  | @mate y m r e ih =>
    exact ih.mate (by rw [I.msE _ (r.rng S g), e]; rfl)
theorem Iso.con (con : ∀ x, InR on.length x → Rch on ms 0 x) : ∀ x, InR on'.length x → Rch on' ms' 0 x := fun x g => by
  have g0 : InR on.length 0 := one_in S con
  have g0' := (I.inr S T).mpr g0
  have hx := I.rho x ((I.inr S T).mp g)
  have h0 := I.rho 0 g0
  have a := I.rch S T g0 (con _ hx.1)
  have b := I.rch S T g0 (con _ h0.1)
  rw [hx.2] at a
  rw [h0.2] at b
  exact (b.symm T ((I.inr S T).mpr (I.pi 0 g0).1)).trans a
theorem Iso.cn {f f' : Int → Int} {q q' : Int → Bool} (hq : ∀ x, InR on.length x → q' (π x) = q x) (hf : ∀ x, InR on.length x → q x = true → f' (π x) = π (f x) ∧ InR on.length (f x)) :
    cN ((rngL on.length).filter q) (stp ((rngL on.length).filter q) f) = cN ((rngL on'.length).filter q') (stp ((rngL on'.length).filter q') f') := by
  have m : ∀ x, x ∈ (rngL on.length).filter q ↔ InR on.length x ∧ q x = true := fun x => by rw [List.mem_filter, rngL_mem]
  have m' : ∀ x, x ∈ (rngL on'.length).filter q' ↔ InR on.length x ∧ q' x = true := fun x => by rw [List.mem_filter, rngL_mem, I.inr S T]
  have up : ∀ x, x ∈ (rngL on.length).filter q → π x ∈ (rngL on'.length).filter q' := fun x hx => by
    obtain ⟨g, h⟩ := (m x).mp hx
    exact (m' _).mpr ⟨(I.pi x g).1, by rw [hq x g, h]⟩
  have dn : ∀ x, x ∈ (rngL on'.length).filter q' → ρ x ∈ (rngL on.length).filter q := fun x hx => by
    obtain ⟨g, h⟩ := (m' x).mp hx
    have r := I.rho x g
    exact (m _).mpr ⟨r.1, by rw [← hq _ r.1, r.2, h]⟩
  refine cN_iso ((ndR _).sublist List.filter_sublist) ((ndR _).sublist List.filter_sublist) (fun x hx => ((m x).mp hx).1) (fun x hx => (I.inr S T).mpr ((m' x).mp hx).1) π ρ up dn (fun x y r => ?_) (fun x y r => ?_) (fun x hx => ?_) (fun x hx => ?_)
  · obtain ⟨hx, rfl⟩ := r
    obtain ⟨g, h⟩ := (m x).mp hx
    exact .step ⟨up x hx, (hf x g h).1.symm⟩
  · obtain ⟨hx, rfl⟩ := r
    have hd := dn x hx
    obtain ⟨g, h⟩ := (m _).mp hd
    have r := I.rho x ((m' x).mp hx).1
    obtain ⟨e, c⟩ := hf _ g h
    rw [r.2] at e
    rw [e, (I.pi _ c).2]; exact .step ⟨hd, rfl⟩
  · rw [(I.pi x ((m x).mp hx).1).2]; exact .refl _
  · rw [(I.rho x ((m' x).mp hx).1).2]; exact .refl _
theorem Iso.fst {y z : Int} (g : InR on.length y) (hz : z ∈ knotL on ms y) (e : lkM ms z = none) : fstK on' ms' (π y) = π z := by
  have gz := (S.knot g).2.2.1 z hz
  have t := (S.knot g).1
  have all := t.all (P := fun z => InR on.length z ∧ EG (fun x y => InR on.length x ∧ lefM on ms x = some y) (fstK on ms y) z) ⟨(S.fst g).1, .refl _⟩ fun u v hp ee => ⟨S.lefR hp.1 ee, hp.2.trans (.step ⟨hp.1, ee⟩)⟩
  have g' := (I.inr S T).mpr (I.pi y g).1
  have cl : ∀ {x w}, EG (fun x y => InR on.length x ∧ lefM on ms x = some y) x w → (π x ∈ knotL on' ms' (π y) ↔ π w ∈ knotL on' ms' (π y)) := fun {x w} r => by
    refine EG.closed (C := fun z => π z ∈ knotL on' ms' (π y)) (fun u v ⟨gu, eu⟩ => ?_) r
    have gu' := (I.inr S T).mpr (I.pi u gu).1
    have el : lefM on' ms' (π u) = some (π v) := by rw [I.lef S T gu, eu]; rfl
    have hc := T.part_knot.cls (π y) (rngL_mem.mpr g')
    have k := pL_knot T (h := π u) gu'
    unfold Hs.pL at k
    rw [el] at k
    have hcu := (T.part_knot.cls (π u) (rngL_mem.mpr gu')).2.2 _ k
    constructor
    · intro h
      exact ((hc.2.2 _ h).2 _).mp k
    · intro h
      exact ((hc.2.2 _ h).2 _).mp ((hcu.2 _).mpr (T.self_knot gu'))
  have mz := (cl ((all y (S.self_knot g)).2.symm.trans (all z hz).2)).mp (T.self_knot g')
  exact (fst_only T g' mz (by rw [I.msE _ gz, e]; rfl)).symm
theorem Iso.allC (con : ∀ x, InR on.length x → Rch on ms 0 x) : (partsL on' ms').map (rowL on' ms') = (partsL on ms).map (rowL on ms) := by
  have con' := I.con S T con
  rw [one_parts S con, one_parts T con']
  have fT : ∀ n : Nat, (rngL n).filter (fun _ => true) = rngL n := fun n => List.filter_eq_self.mpr fun _ _ => rfl
  have kE := I.cn S T (f := Hs.pL on ms) (f' := Hs.pL on' ms') (q := fun _ => true) (q' := fun _ => true) (fun _ _ => rfl) fun x g _ => ⟨I.pL S T g, (S.knot g).2.2.1 _ (pL_knot S g)⟩
  have pE := I.cn S T (f := lk on) (f' := lk on') (q := fun _ => true) (q' := fun _ => true) (fun _ _ => rfl) fun x g _ => ⟨I.onE x g, S.lkR g⟩
  have uq : ∀ x, InR on.length x → decide (lkM ms' (π x) = none) = decide (lkM ms x = none) := fun x g => by
    rw [I.msE x g, decide_eq_decide]
    cases lkM ms x <;> simp
  have uE := I.cn S T (f := fun x => x) (f' := fun x => x) (q := fun h => decide (lkM ms h = none)) (q' := fun h => decide (lkM ms' h = none)) uq fun x g _ => ⟨rfl, g⟩
  have rE := I.cn S T (f := Hs.pR on ms) (f' := Hs.pR on' ms') (q := fun h => decide (lkM ms h = none)) (q' := fun h => decide (lkM ms' h = none)) uq fun x g h => by
    have e := of_decide_eq_true h
    have gf := S.fst_free g e
    refine ⟨?_, gf.1⟩
    unfold Hs.pR
    rw [I.onE x g]
    exact I.fst S T (S.lkR g) (fst_knot S (S.lkR g)) gf.2
  rw [fT, fT] at kE pE
  rw [cN_ids _ _ (fun x y r => r.2.symm), cN_ids _ _ (fun x y r => r.2.symm)] at uE
  obtain ⟨s, g, e1, e2, e3⟩ := one_row S con rfl rfl rfl rfl
  obtain ⟨s', g', e1', e2', e3'⟩ := one_row T con' kE.symm pE.symm uE.symm rE.symm
  show [rowL on' ms' (rngL on'.length)] = [rowL on ms (rngL on.length)]
  rw [e1, e1']
  rw [I.len] at e2'
  have es : s = s' := by omega
  have eg : g = g' := by omega
  rw [es, eg]
end
end Hs
set_option Elab.async false
set_option linter.all false
set_option maxRecDepth 100000
set_option maxHeartbeats 1000000
namespace Hs
def nM (w h way x : Nat) : Option Nat :=
  if x % 4 = 0 then (if x / 4 / w = 0 ∧ way ≤ 1 then none else some (4 * (((x / 4 / w + h - 1) % h) * w + x / 4 % w) + 2))
  else if x % 4 = 1 then (if x / 4 % w = w - 1 ∧ way = 0 then none else some (4 * (x / 4 / w * w + (x / 4 % w + 1) % w) + 3))
  else if x % 4 = 2 then (if x / 4 / w = h - 1 ∧ way ≤ 1 then none else some (4 * (((x / 4 / w + 1) % h) * w + x / 4 % w)))
  else (if x / 4 % w = 0 ∧ way = 0 then none else some (4 * (x / 4 / w * w + (x / 4 % w + w - 1) % w) + 1))
def nA (x : Nat) : Nat := if x % 4 = 0 then x + 3 else x - 1
def nL (w h way x : Nat) : Nat := (nM w h way (nA x)).getD x
def nW (w way : Nat) : Nat := if way = 0 then w + 1 else w
def nH (h way : Nat) : Nat := if way ≤ 1 then h + 1 else h
def nCor (w h way x : Nat) : Nat := ((x / 4 / w + (if 2 ≤ x % 4 then 1 else 0)) % nH h way) * nW w way + (x / 4 % w + (if x % 4 = 1 ∨ x % 4 = 2 then 1 else 0)) % nW w way
def nCan (w h way c : Nat) : Nat :=
  if way = 0 ∧ c % nW w way = w then (if c / nW w way = 0 then 4 * (w - 1) + 1 else 4 * ((c / nW w way - 1) * w + w - 1) + 2)
  else if way ≤ 1 ∧ c / nW w way = h then 4 * ((h - 1) * w + c % nW w way) + 3
  else if way ≤ 1 ∧ c / nW w way = 0 ∧ (way = 1 ∨ 0 < c % nW w way) then 4 * ((c % nW w way + w - 1) % w) + 1
  else 4 * (c / nW w way * w + c % nW w way)
def nRk (w h way x : Nat) : Nat :=
  let c := nCan w h way (nCor w h way x)
  if x = c then 0 else if nL w h way x = c then 1 else if nL w h way (nL w h way x) = c then 2 else 3
def mOk (n : Nat) (M : Nat → Option Nat) (i : Nat) : Bool := match M i with
  | none => true
  | some m => Nat.blt m n && !(Nat.beq m i) && (match M m with | none => false | some k => Nat.beq k i)
def okNet (w h way : Nat) : Bool :=
  ((List.range (4 * (w * h))).all fun x => mOk (4 * (w * h)) (nM w h way) x && Nat.blt (nL w h way x) (4 * (w * h)) && Nat.beq (nCor w h way (nL w h way x)) (nCor w h way x) && Nat.blt (nCor w h way x) (nW w way * nH h way)
    && (Nat.beq x (nCan w h way (nCor w h way x)) || Nat.blt (nRk w h way (nL w h way x)) (nRk w h way x))
    && (Nat.blt 0 (x % 4) || Nat.beq x 0 || (if x / 4 % w = 0 then (match nM w h way (4 * (x / 4 - w) + 2) with | none => false | some m => Nat.beq m x && Nat.blt (4 * (x / 4 - w) + 2) x) else (match nM w h way (4 * (x / 4 - 1) + 1) with | none => false | some m => Nat.beq m (x + 3)))))
  && ((List.range (nW w way * nH h way)).all fun c => Nat.blt (nCan w h way c) (4 * (w * h)) && Nat.beq (nCor w h way (nCan w h way c)) c)
  && Nat.beq ((List.range (4 * (w * h))).filter fun i => (nM w h way i).isNone).length (if way = 0 then 2 * w + 2 * h else if way = 1 then 2 * w else 0)
theorem all_net0 : ∀ h, h < 9 → ∀ way, way < 3 → okNet 1 (h + 1) way = true := by decide +kernel
theorem all_net1 : ∀ h, h < 9 → ∀ way, way < 3 → okNet 2 (h + 1) way = true := by decide +kernel
theorem all_net2 : ∀ h, h < 9 → ∀ way, way < 3 → okNet 3 (h + 1) way = true := by decide +kernel
theorem all_net3 : ∀ h, h < 9 → ∀ way, way < 3 → okNet 4 (h + 1) way = true := by decide +kernel
theorem all_net4 : ∀ h, h < 9 → ∀ way, way < 3 → okNet 5 (h + 1) way = true := by decide +kernel
theorem all_net5 : ∀ h, h < 9 → ∀ way, way < 3 → okNet 6 (h + 1) way = true := by decide +kernel
theorem all_net6 : ∀ h, h < 9 → ∀ way, way < 3 → okNet 7 (h + 1) way = true := by decide +kernel
theorem all_net7 : ∀ h, h < 9 → ∀ way, way < 3 → okNet 8 (h + 1) way = true := by decide +kernel
theorem all_net8 : ∀ h, h < 9 → ∀ way, way < 3 → okNet 9 (h + 1) way = true := by decide +kernel
theorem all_net : ∀ w, w < 9 → ∀ h, h < 9 → ∀ way, way < 3 → okNet (w + 1) (h + 1) way = true
  | 0, _ => all_net0
  | 1, _ => all_net1
  | 2, _ => all_net2
  | 3, _ => all_net3
  | 4, _ => all_net4
  | 5, _ => all_net5
  | 6, _ => all_net6
  | 7, _ => all_net7
  | 8, _ => all_net8
  | k + 9, h => absurd h (by omega)
def wM (H A x : Nat) : Option Nat :=
  if x < 4 * H then (if x % 4 < 2 then some (x + 2) else some (x - 2))
  else if (x - 4 * H) % 3 = 0 then some (x + 2) else if (x - 4 * H) % 3 = 1 then none else some (x - 2)
def wA (H A x : Nat) : Nat := if x = 0 then 4 * H + 3 * A - 1 else x - 1
def wL (H A x : Nat) : Nat := (wM H A (wA H A x)).getD x
def wCor (H x : Nat) : Nat := if x < 4 * H then 0 else if (x - 4 * H) % 3 = 0 then 0 else 1 + (x - 4 * H) / 3
def wCan (H c : Nat) : Nat := if c = 0 then 0 else 4 * H + 3 * (c - 1) + 2
def wRk (H x : Nat) : Nat := if x < 4 * H then 4 * (x / 4) + (if x % 4 = 0 then 0 else 4 - x % 4) else if (x - 4 * H) % 3 = 0 then x else if (x - 4 * H) % 3 = 1 then 1 else 0
def okWord (H A : Nat) : Bool :=
  ((List.range (4 * H + 3 * A)).all fun x => mOk (4 * H + 3 * A) (wM H A) x && Nat.blt (wL H A x) (4 * H + 3 * A) && Nat.beq (wCor H (wL H A x)) (wCor H x) && Nat.blt (wCor H x) (1 + A)
    && (Nat.beq x (wCan H (wCor H x)) || Nat.blt (wRk H (wL H A x)) (wRk H x))
    && ((wM H A x).isSome || (Nat.beq (wL H A x) (x + 1) && Nat.blt (x + 1) (4 * H + 3 * A))))
  && ((List.range (1 + A)).all fun c => Nat.blt (wCan H c) (4 * H + 3 * A) && Nat.beq (wCor H (wCan H c)) c)
  && Nat.beq ((List.range (4 * H + 3 * A)).filter fun i => (wM H A i).isNone).length A
theorem all_word0 : ∀ A, A < 21 → (0 < 0 ∨ 0 < A) → okWord 0 A = true := by decide +kernel
theorem all_word1 : ∀ A, A < 21 → (0 < 1 ∨ 0 < A) → okWord 1 A = true := by decide +kernel
theorem all_word2 : ∀ A, A < 21 → (0 < 2 ∨ 0 < A) → okWord 2 A = true := by decide +kernel
theorem all_word3 : ∀ A, A < 21 → (0 < 3 ∨ 0 < A) → okWord 3 A = true := by decide +kernel
theorem all_word4 : ∀ A, A < 21 → (0 < 4 ∨ 0 < A) → okWord 4 A = true := by decide +kernel
theorem all_word5 : ∀ A, A < 21 → (0 < 5 ∨ 0 < A) → okWord 5 A = true := by decide +kernel
theorem all_word6 : ∀ A, A < 21 → (0 < 6 ∨ 0 < A) → okWord 6 A = true := by decide +kernel
theorem all_word7 : ∀ A, A < 21 → (0 < 7 ∨ 0 < A) → okWord 7 A = true := by decide +kernel
theorem all_word8 : ∀ A, A < 21 → (0 < 8 ∨ 0 < A) → okWord 8 A = true := by decide +kernel
theorem all_word9 : ∀ A, A < 21 → (0 < 9 ∨ 0 < A) → okWord 9 A = true := by decide +kernel
theorem all_word10 : ∀ A, A < 21 → (0 < 10 ∨ 0 < A) → okWord 10 A = true := by decide +kernel
theorem all_word11 : ∀ A, A < 21 → (0 < 11 ∨ 0 < A) → okWord 11 A = true := by decide +kernel
theorem all_word12 : ∀ A, A < 21 → (0 < 12 ∨ 0 < A) → okWord 12 A = true := by decide +kernel
theorem all_word13 : ∀ A, A < 21 → (0 < 13 ∨ 0 < A) → okWord 13 A = true := by decide +kernel
theorem all_word14 : ∀ A, A < 21 → (0 < 14 ∨ 0 < A) → okWord 14 A = true := by decide +kernel
theorem all_word15 : ∀ A, A < 21 → (0 < 15 ∨ 0 < A) → okWord 15 A = true := by decide +kernel
theorem all_word16 : ∀ A, A < 21 → (0 < 16 ∨ 0 < A) → okWord 16 A = true := by decide +kernel
theorem all_word17 : ∀ A, A < 21 → (0 < 17 ∨ 0 < A) → okWord 17 A = true := by decide +kernel
theorem all_word18 : ∀ A, A < 21 → (0 < 18 ∨ 0 < A) → okWord 18 A = true := by decide +kernel
theorem all_word19 : ∀ A, A < 21 → (0 < 19 ∨ 0 < A) → okWord 19 A = true := by decide +kernel
theorem all_word : ∀ H, H < 20 → ∀ A, A < 21 → (0 < H ∨ 0 < A) → okWord H A = true
  | 0, _ => all_word0
  | 1, _ => all_word1
  | 2, _ => all_word2
  | 3, _ => all_word3
  | 4, _ => all_word4
  | 5, _ => all_word5
  | 6, _ => all_word6
  | 7, _ => all_word7
  | 8, _ => all_word8
  | 9, _ => all_word9
  | 10, _ => all_word10
  | 11, _ => all_word11
  | 12, _ => all_word12
  | 13, _ => all_word13
  | 14, _ => all_word14
  | 15, _ => all_word15
  | 16, _ => all_word16
  | 17, _ => all_word17
  | 18, _ => all_word18
  | 19, _ => all_word19
  | k + 20, h => absurd h (by omega)
end Hs
set_option Elab.async false
set_option linter.all false
set_option maxRecDepth 100000
set_option maxHeartbeats 1000000
namespace Hs
open PySem L2
theorem cor_count {n K : Nat} {f : Int → Int} {L cor can rank : Nat → Nat} (hf : ∀ i : Nat, i < n → f (i : Int) = ((L i : Nat) : Int)) (hL : ∀ i, i < n → L i < n) (hc : ∀ i, i < n → cor (L i) = cor i ∧ cor i < K)
    (hr : ∀ i, i < n → i = can (cor i) ∨ rank (L i) < rank i) (hk : ∀ c, c < K → can c < n ∧ cor (can c) = c) : cN (rngL n) (stp (rngL n) f) = K := by
  have hin : ∀ i : Nat, i < n → (i : Int) ∈ rngL n := fun i h => rngL_mem.mpr (by unfold InR; omega)
  have nat : ∀ {m : Nat} {x : Int}, x ∈ rngL m → ∃ i : Nat, i < m ∧ x = (i : Int) := fun {m x} h => by
    have g := rngL_mem.mp h
    unfold InR at g
    exact ⟨x.toNat, by omega, by omega⟩
  have go : ∀ (k i : Nat), i < n → rank i = k → EG (stp (rngL n) f) ((can (cor i) : Nat) : Int) (i : Int) := by
    intro k
    induction k using Nat.strongRecOn with
    | _ k ih =>
      intro i hi hk
      rcases hr i hi with e | lt
      · rw [← e]; exact .refl _
      · have h := ih (rank (L i)) (by omega) (L i) (hL i hi) rfl
        rw [(hc i hi).1] at h
        exact h.trans (EG.step ⟨hin i hi, (hf i hi).symm⟩).symm
  have e := cN_iso (n := n) (n' := K) (r := stp (rngL n) f) (r' := fun _ _ => False) (ndR n) (ndR K) (fun x hx => rngL_mem.mp hx) (fun x hx => rngL_mem.mp hx) (fun x => ((cor x.toNat : Nat) : Int)) (fun x => ((can x.toNat : Nat) : Int)) (fun x hx => ?_) (fun x hx => ?_) (fun x y r => ?_) (fun x y r => r.elim) (fun x hx => ?_) (fun x hx => ?_)
  · rw [e, cN_ids _ _ (fun _ _ z => z.elim), rngL_len]
  · obtain ⟨i, hi, rfl⟩ := nat hx
    exact rngL_mem.mpr (by have := (hc i hi).2; unfold InR; simp only [Int.toNat_natCast]; omega)
  · obtain ⟨i, hi, rfl⟩ := nat hx
    exact hin _ (by rw [Int.toNat_natCast]; exact (hk i hi).1)
  · obtain ⟨hx, rfl⟩ := r
    obtain ⟨i, hi, rfl⟩ := nat hx
    rw [hf i hi]
    simp only [Int.toNat_natCast]
    rw [(hc i hi).1]; exact .refl _
  · obtain ⟨i, hi, rfl⟩ := nat hx
    simp only [Int.toNat_natCast]
    exact go _ i hi rfl
  · obtain ⟨i, hi, rfl⟩ := nat hx
    simp only [Int.toNat_natCast]
    rw [(hk i hi).2]; exact .refl _
def natMs (n : Nat) (M : Nat → Option Nat) : List (Option Int) := (rngL n).map fun x => Option.map (fun m : Nat => (m : Int)) (M x.toNat)
theorem natMs_at {n : Nat} {M : Nat → Option Nat} {i : Nat} (h : i < n) : lkM (natMs n M) (i : Int) = Option.map (fun m : Nat => (m : Int)) (M i) := by
  unfold natMs
  rw [lkM_rngmap (by unfold InR; omega)]; simp
theorem natMs_len (n : Nat) (M : Nat → Option Nat) : (natMs n M).length = n := by unfold natMs; rw [List.length_map, rngL_len]
theorem natMs_ok {n : Nat} {M : Nat → Option Nat} (h : ∀ i, i < n → ∀ m, M i = some m → m < n ∧ m ≠ i ∧ M m = some i) : ∀ (i : Nat) (m : Int), (natMs n M)[i]? = some (some m) → 0 ≤ m ∧ m < (n : Int) ∧ m ≠ (i : Int) ∧ (natMs n M)[m.toNat]? = some (some (i : Int)) := fun i m e => by
  have hi : i < n := by
    have := (List.getElem?_eq_some_iff.mp e).1
    rw [natMs_len] at this; exact this
  have e1 := natMs_at (M := M) hi
  unfold lkM at e1
  rw [Int.toNat_natCast, e] at e1
  have e1 : some m = Option.map (fun m : Nat => (m : Int)) (M i) := e1
  cases em : M i with
  | none => rw [em] at e1; cases e1
  | some k =>
    rw [em] at e1
    obtain rfl : m = (k : Int) := Option.some.inj e1
    obtain ⟨k1, k2, k3⟩ := h i hi k em
    refine ⟨by omega, by omega, by omega, ?_⟩
    rw [Int.toNat_natCast]
    unfold natMs
    rw [List.getElem?_map, rngL_get k1]
    show some (Option.map (fun m : Nat => (m : Int)) (M ((k : Int)).toNat)) = _
    rw [Int.toNat_natCast, k3]; rfl
theorem natMs_free (n : Nat) (M : Nat → Option Nat) : ((rngL n).filter fun h => decide (lkM (natMs n M) h = none)).length = ((List.range n).filter fun i => (M i).isNone).length := by
  unfold rngL
  rw [List.filter_map, List.length_map]
  congr 1
  refine List.filter_congr fun i hi => ?_
  show decide (lkM (natMs n M) (i : Int) = none) = _
  rw [natMs_at (List.mem_range.mp hi)]
  cases M i <;> simp
end Hs
set_option Elab.async false
set_option linter.all false
set_option maxRecDepth 100000
set_option maxHeartbeats 1000000
namespace Hs
open PySem L2
theorem mOk_at {n : Nat} {M : Nat → Option Nat} {i : Nat} (h : mOk n M i = true) : ∀ m, M i = some m → m < n ∧ m ≠ i ∧ M m = some i := fun m e => by
  unfold mOk at h
  rw [e] at h
  simp only [Bool.and_eq_true, Bool.not_eq_true'] at h
  obtain ⟨⟨h1, h2⟩, h3⟩ := h
  have h1 : m < n := by simpa [Nat.blt_eq] using h1
  refine ⟨h1, fun z => ?_, ?_⟩
  · rw [z, Nat.beq_refl] at h2; cases h2
  · cases em : M m with
    | none => rw [em] at h3; cases h3
    | some k =>
      rw [em] at h3
      have := Nat.eq_of_beq_eq_true h3
      rw [this]
theorem cN_pos {L : List Int} {n : Nat} (hR : ∀ x ∈ L, InR n x) {r : Int → Int → Prop} (h : L ≠ []) : 1 ≤ cN L r := by
  classical
  obtain ⟨a, ha⟩ := List.exists_mem_of_ne_nil L h
  obtain ⟨m, hm, _, lm⟩ := least_ex hR (R := r) ha
  unfold cN
  exact List.length_pos_of_mem (List.mem_filter.mpr ⟨hm, decide_eq_true lm⟩)
theorem nat_of {n : Nat} {x : Int} (g : InR n x) : ∃ i : Nat, i < n ∧ x = (i : Int) := by
  unfold InR at g
  exact ⟨x.toNat, by omega, by omega⟩
theorem inR_nat {n i : Nat} : InR n (i : Int) ↔ i < n := by unfold InR; omega
def netOn (n : Nat) : List Int := (rngL n).map fun x => if x % 4 = 3 then x - 3 else x + 1
theorem netOn_len (n : Nat) : (netOn n).length = n := by unfold netOn; rw [List.length_map, rngL_len]
theorem netOn_at {n : Nat} {x : Int} (g : InR n x) : lk (netOn n) x = if x % 4 = 3 then x - 3 else x + 1 := lk_rngmap g
structure NetOk (w h way : Nat) : Prop where
  mt : ∀ i, i < 4 * (w * h) → ∀ m, nM w h way i = some m → m < 4 * (w * h) ∧ m ≠ i ∧ nM w h way m = some i
  lt : ∀ i, i < 4 * (w * h) → nL w h way i < 4 * (w * h)
  co : ∀ i, i < 4 * (w * h) → nCor w h way (nL w h way i) = nCor w h way i ∧ nCor w h way i < nW w way * nH h way
  rk : ∀ i, i < 4 * (w * h) → i = nCan w h way (nCor w h way i) ∨ nRk w h way (nL w h way i) < nRk w h way i
  cn : ∀ p, 4 * p < 4 * (w * h) → 0 < p → (∃ j, j < 4 * p ∧ nM w h way j = some (4 * p)) ∨ (nM w h way (4 * (p - 1) + 1) = some (4 * p + 3))
  ca : ∀ c, c < nW w way * nH h way → nCan w h way c < 4 * (w * h) ∧ nCor w h way (nCan w h way c) = c
  un : ((List.range (4 * (w * h))).filter fun i => (nM w h way i).isNone).length = (if way = 0 then 2 * w + 2 * h else if way = 1 then 2 * w else 0)
theorem okNet_of {w h way : Nat} (e : okNet w h way = true) : NetOk w h way := by
  unfold okNet at e
  rw [Bool.and_eq_true, Bool.and_eq_true] at e
  obtain ⟨⟨e1, e2⟩, e3⟩ := e
  rw [List.all_eq_true] at e1 e2
  have a : ∀ i, i < 4 * (w * h) → _ := fun i hi => e1 i (List.mem_range.mpr hi)
  simp only [Bool.and_eq_true, Bool.or_eq_true] at a
  refine ⟨fun i hi => mOk_at (a i hi).1.1.1.1.1, fun i hi => ?_, fun i hi => ⟨Nat.eq_of_beq_eq_true (a i hi).1.1.1.2, ?_⟩, fun i hi => ?_, fun p hp h0 => ?_, fun c hc => ?_, Nat.eq_of_beq_eq_true e3⟩
  · simpa [Nat.blt_eq] using (a i hi).1.1.1.1.2
  · simpa [Nat.blt_eq] using (a i hi).1.1.2
  · rcases (a i hi).1.2 with h | h
    · exact .inl (Nat.eq_of_beq_eq_true h)
    · exact .inr (by simpa [Nat.blt_eq] using h)
  · rcases (a (4 * p) hp).2 with (z | z) | z
    · have : 0 < 4 * p % 4 := by simpa [Nat.blt_eq] using z
      omega
    · have := Nat.eq_of_beq_eq_true z; omega
    · rw [show 4 * p / 4 = p by omega] at z
      split at z
      · refine .inl ⟨4 * (p - w) + 2, ?_, ?_⟩
        · cases em : nM w h way (4 * (p - w) + 2) with
          | none => rw [em] at z; cases z
          | some m =>
            rw [em] at z
            simp only [Bool.and_eq_true] at z
            simpa [Nat.blt_eq] using z.2
        · cases em : nM w h way (4 * (p - w) + 2) with
          | none => rw [em] at z; cases z
          | some m =>
            rw [em] at z
            simp only [Bool.and_eq_true] at z
            rw [Nat.eq_of_beq_eq_true z.1]
      · right
        cases em : nM w h way (4 * (p - 1) + 1) with
        | none => rw [em] at z; cases z
        | some m =>
          rw [em] at z
          rw [Nat.eq_of_beq_eq_true z]
  · have := e2 c (List.mem_range.mpr hc)
    rw [Bool.and_eq_true] at this
    exact ⟨by simpa [Nat.blt_eq] using this.1, Nat.eq_of_beq_eq_true this.2⟩
def netMs (w h way : Nat) : List (Option Int) := natMs (4 * (w * h)) (nM w h way)
section
variable {w h way : Nat} (N : NetOk w h way) (hw : 1 ≤ w ∧ w ≤ 9) (hh : 1 ≤ h ∧ h ≤ 9)
include hw hh
theorem net_size : 1 ≤ w * h ∧ w * h ≤ 81 := ⟨Nat.mul_pos hw.1 hh.1, Nat.mul_le_mul hw.2 hh.2⟩
include N
theorem net_skin : SkinOk (netOn (4 * (w * h))) (netMs w h way) := by
  have sz := net_size hw hh
  generalize hn : w * h = n at *
  have ln := netOn_len (4 * n)
  refine ⟨by rw [ln]; omega, by rw [ln]; omega, by rw [ln]; unfold netMs; rw [natMs_len, hn], fun x hx => ?_, ?_, fun y h0 h1 => ?_, fun i m e => ?_⟩
  · obtain ⟨y, hy, rfl⟩ := List.mem_map.mp hx
    have g := rngL_mem.mp hy
    unfold InR at g
    rw [ln]; split <;> omega
  · unfold netOn
    rw [List.nodup_iff_pairwise_ne, List.pairwise_map]
    refine List.Pairwise.imp_of_mem ?_ (rngL_lt (4 * n))
    intro a b ha hb lt e
    split at e <;> split at e <;> omega
  · rw [ln] at h1
    by_cases c : y % 4 = 0
    · exact List.mem_map.mpr ⟨y + 3, rngL_mem.mpr (by unfold InR; omega), by rw [if_pos (by omega)]; omega⟩
    · exact List.mem_map.mpr ⟨y - 1, rngL_mem.mpr (by unfold InR; omega), by rw [if_neg (by omega)]; omega⟩
  · rw [ln, ← hn]
    exact natMs_ok N.mt i m e
theorem net_ahd {i : Nat} (hi : i < 4 * (w * h)) : ahd (netOn (4 * (w * h))) (i : Int) = ((nA i : Nat) : Int) := by
  have S := net_skin N hw hh
  have hA : nA i < 4 * (w * h) := by unfold nA; split <;> omega
  have e : lk (netOn (4 * (w * h))) ((nA i : Nat) : Int) = (i : Int) := by
    rw [netOn_at (inR_nat.mpr hA)]
    unfold nA
    by_cases c : i % 4 = 0
    · rw [if_pos c, if_pos (by omega)]; omega
    · rw [if_neg c, if_neg (by omega)]; omega
  rw [← e]
  exact S.ahL (by rw [netOn_len]; exact inR_nat.mpr hA)
theorem net_pL {i : Nat} (hi : i < 4 * (w * h)) : pL (netOn (4 * (w * h))) (netMs w h way) (i : Int) = ((nL w h way i : Nat) : Int) := by
  unfold pL lefM nL
  rw [net_ahd N hw hh hi]
  have hA : nA i < 4 * (w * h) := by unfold nA; split <;> omega
  unfold netMs
  rw [natMs_at hA]
  cases nM w h way (nA i) <;> rfl
theorem net_con : ∀ x, InR (netOn (4 * (w * h))).length x → Rch (netOn (4 * (w * h))) (netMs w h way) 0 x := by
  have S := net_skin N hw hh
  have ln := netOn_len (4 * (w * h))
  have onS : ∀ i : Nat, i < 4 * (w * h) → Rch (netOn (4 * (w * h))) (netMs w h way) 0 (i : Int) → Rch (netOn (4 * (w * h))) (netMs w h way) 0 ((if i % 4 = 3 then i - 3 else i + 1 : Nat) : Int) := fun i hi r => by
    have k := r.next
    rw [netOn_at (inR_nat.mpr hi)] at k
    by_cases c : i % 4 = 3
    · rw [if_pos c]
      rw [if_pos (by omega)] at k
      rw [show ((i - 3 : Nat) : Int) = (i : Int) - 3 by omega]; exact k
    · rw [if_neg c]
      rw [if_neg (by omega)] at k
      exact k
  have mtS : ∀ i j : Nat, i < 4 * (w * h) → nM w h way i = some j → Rch (netOn (4 * (w * h))) (netMs w h way) 0 (i : Int) → Rch (netOn (4 * (w * h))) (netMs w h way) 0 (j : Int) := fun i j hi e r => r.mate (by unfold netMs; rw [natMs_at hi, e]; rfl)
  have all : ∀ (k i : Nat), i = k → i < 4 * (w * h) → Rch (netOn (4 * (w * h))) (netMs w h way) 0 (i : Int) := by
    intro k
    induction k using Nat.strongRecOn with
    | _ k ih =>
      rintro i rfl hi
      by_cases c : i % 4 = 0
      · by_cases z : i = 0
        · subst z; exact .self
        · obtain ⟨p, rfl⟩ : ∃ p, i = 4 * p := ⟨i / 4, by omega⟩
          rcases N.cn p hi (by omega) with ⟨j, hj, e⟩ | e
          · exact mtS j _ (by omega) e (ih j hj j rfl (by omega))
          · have r := mtS _ _ (by omega) e (ih (4 * (p - 1) + 1) (by omega) _ rfl (by omega))
            have := onS (4 * p + 3) (by omega) r
            rw [if_pos (by omega), show 4 * p + 3 - 3 = 4 * p by omega] at this
            exact this
      · have := onS (i - 1) (by omega) (ih (i - 1) (by omega) _ rfl (by omega))
        rw [if_neg (by omega), show i - 1 + 1 = i by omega] at this
        exact this
  intro x g
  rw [ln] at g
  obtain ⟨i, hi, rfl⟩ := nat_of g
  exact all i i rfl hi
theorem net_row (hway : way < 3) : (partsL (netOn (4 * (w * h))) (netMs w h way)).map (rowL (netOn (4 * (w * h))) (netMs w h way)) =
    [if way = 0 then [((w : Int) + 1) * (h + 1), 2 * ((w : Int) * h) + w + h, (w : Int) * h, 1, 0] else if way = 1 then [(w : Int) * (h + 1), 2 * ((w : Int) * h) + w, (w : Int) * h, 2, 0] else [(w : Int) * h, 2 * ((w : Int) * h), (w : Int) * h, 0, 1]] := by
  have S := net_skin N hw hh
  have con := net_con N hw hh
  have ln := netOn_len (4 * (w * h))
  have hk : cN (rngL (netOn (4 * (w * h))).length) (stp (rngL (netOn (4 * (w * h))).length) (pL (netOn (4 * (w * h))) (netMs w h way))) = nW w way * nH h way := by
    rw [ln]
    exact cor_count (fun i hi => net_pL N hw hh hi) N.lt N.co N.rk N.ca
  have hp : cN (rngL (netOn (4 * (w * h))).length) (stp (rngL (netOn (4 * (w * h))).length) (lk (netOn (4 * (w * h))))) = w * h := by
    rw [ln]
    refine cor_count (L := fun i => if i % 4 = 3 then i - 3 else i + 1) (cor := fun i => i / 4) (can := fun c => 4 * c) (rank := fun i => (4 - i % 4) % 4) (fun i hi => ?_) (fun i hi => ?_) (fun i hi => ?_) (fun i hi => ?_) (fun c hc => ?_)
    · rw [netOn_at (inR_nat.mpr hi)]
      by_cases c : i % 4 = 3
      · rw [if_pos (by omega), if_pos c]; omega
      · rw [if_neg (by omega), if_neg c]; omega
    · split <;> omega
    · split <;> omega
    · split <;> omega
    · omega
  have hu : ((rngL (netOn (4 * (w * h))).length).filter fun x => decide (lkM (netMs w h way) x = none)).length = (if way = 0 then 2 * w + 2 * h else if way = 1 then 2 * w else 0) := by
    rw [ln]
    unfold netMs
    rw [natMs_free, N.un]
  obtain ⟨s, g, e1, e2, e3⟩ := one_row S con hk hp hu rfl
  have r0 : ((rngL (netOn (4 * (w * h))).length).filter fun x => decide (lkM (netMs w h way) x = none)) ≠ [] → 1 ≤ cN ((rngL (netOn (4 * (w * h))).length).filter fun x => decide (lkM (netMs w h way) x = none)) (stp ((rngL (netOn (4 * (w * h))).length).filter fun x => decide (lkM (netMs w h way) x = none)) (pR (netOn (4 * (w * h))) (netMs w h way))) := fun z => cN_pos (fun x hx => rngL_mem.mp (List.mem_filter.mp hx).1) z
  have r1 : cN ((rngL (netOn (4 * (w * h))).length).filter fun x => decide (lkM (netMs w h way) x = none)) (stp ((rngL (netOn (4 * (w * h))).length).filter fun x => decide (lkM (netMs w h way) x = none)) (pR (netOn (4 * (w * h))) (netMs w h way))) ≤ ((rngL (netOn (4 * (w * h))).length).filter fun x => decide (lkM (netMs w h way) x = none)).length := by
    unfold cN; exact List.length_filter_le ..
  generalize cN ((rngL (netOn (4 * (w * h))).length).filter fun x => decide (lkM (netMs w h way) x = none)) (stp ((rngL (netOn (4 * (w * h))).length).filter fun x => decide (lkM (netMs w h way) x = none)) (pR (netOn (4 * (w * h))) (netMs w h way))) = r at *
  have r0 : 0 < ((rngL (netOn (4 * (w * h))).length).filter fun x => decide (lkM (netMs w h way) x = none)).length → 1 ≤ r := fun z => r0 (List.length_pos_iff.mp z)
  rw [hu] at r0 r1
  rw [one_parts S con]
  show [rowL _ _ _] = _
  rw [e1]
  rw [ln] at e2
  have q1 : ((w : Int) + 1) * (h + 1) = (w : Int) * h + w + h + 1 := by rw [Int.mul_add, Int.add_mul]; omega
  have q2 : (w : Int) * (h + 1) = (w : Int) * h + w := by rw [Int.mul_add]; omega
  have q3 : (w + 1) * (h + 1) = w * h + w + h + 1 := by rw [Nat.mul_add, Nat.add_mul]; omega
  have q4 : w * (h + 1) = w * h + w := by rw [Nat.mul_add]; omega
  have q5 : (w : Int) * h = ((w * h : Nat) : Int) := by rw [Int.natCast_mul]
  rw [q1, q2, q5]
  unfold nW nH at e3 ⊢
  have : way = 0 ∨ way = 1 ∨ way = 2 := by omega
  have r9 := r1
  clear r1 q1 q2 q5
  rcases this with rfl | rfl | rfl
  · simp only [Nat.zero_le, if_true] at e2 e3 r0 ⊢
    rw [q3] at e3 ⊢
    clear q3 q4
    generalize w * h = m at *
    have er : r = 1 := by omega
    have eg : g = 0 := by omega
    have es : s = 2 * (m : Int) + w + h := by omega
    rw [er, eg, es, show ((m + w + h + 1 : Nat) : Int) = (m : Int) + w + h + 1 by omega]; rfl
  · simp only [Nat.le_refl, if_true, Nat.one_ne_zero, if_false] at e2 e3 r0 ⊢
    rw [q4] at e3 ⊢
    clear q3 q4
    generalize w * h = m at *
    have eg : g = 0 := by omega
    have er : r = 2 := by omega
    have es : s = 2 * (m : Int) + w := by omega
    rw [er, eg, es, show ((m + w : Nat) : Int) = (m : Int) + w by omega]; rfl
  · simp only [if_neg (show ¬ (2 : Nat) ≤ 1 by omega), if_neg (show ¬ (2 : Nat) = 0 by omega), if_neg (show ¬ (2 : Nat) = 1 by omega)] at e2 e3 r0 r9 ⊢
    clear q3 q4
    generalize w * h = m at *
    have er : r = 0 := by omega
    have eg : g = 1 := by omega
    have es : s = 2 * (m : Int) := by omega
    rw [er, eg, es]; rfl
end
end Hs
set_option Elab.async false
set_option linter.all false
set_option maxRecDepth 100000
set_option maxHeartbeats 1000000
namespace Hs
open PySem L2
def wOn (n : Nat) : List Int := (rngL n).map fun x => (x + 1) % (n : Int)
theorem wOn_len (n : Nat) : (wOn n).length = n := by unfold wOn; rw [List.length_map, rngL_len]
theorem wOn_at {n i : Nat} (h : i < n) : lk (wOn n) (i : Int) = ((if i + 1 = n then 0 else i + 1 : Nat) : Int) := by
  unfold wOn
  rw [lk_rngmap (inR_nat.mpr h)]
  by_cases c : i + 1 = n
  · rw [if_pos c, show (i : Int) + 1 = (n : Int) by omega, Int.emod_self]; rfl
  · rw [if_neg c, Int.emod_eq_of_lt (by omega) (by omega)]; omega
structure WordOk (H A : Nat) : Prop where
  mt : ∀ i, i < 4 * H + 3 * A → ∀ m, wM H A i = some m → m < 4 * H + 3 * A ∧ m ≠ i ∧ wM H A m = some i
  lt : ∀ i, i < 4 * H + 3 * A → wL H A i < 4 * H + 3 * A
  co : ∀ i, i < 4 * H + 3 * A → wCor H (wL H A i) = wCor H i ∧ wCor H i < 1 + A
  rk : ∀ i, i < 4 * H + 3 * A → i = wCan H (wCor H i) ∨ wRk H (wL H A i) < wRk H i
  al : ∀ i, i < 4 * H + 3 * A → wM H A i = none → wL H A i = i + 1 ∧ i + 1 < 4 * H + 3 * A
  ca : ∀ c, c < 1 + A → wCan H c < 4 * H + 3 * A ∧ wCor H (wCan H c) = c
  un : ((List.range (4 * H + 3 * A)).filter fun i => (wM H A i).isNone).length = A
theorem okWord_of {H A : Nat} (e : okWord H A = true) : WordOk H A := by
  unfold okWord at e
  rw [Bool.and_eq_true, Bool.and_eq_true] at e
  obtain ⟨⟨e1, e2⟩, e3⟩ := e
  rw [List.all_eq_true] at e1 e2
  have a : ∀ i, i < 4 * H + 3 * A → _ := fun i hi => e1 i (List.mem_range.mpr hi)
  simp only [Bool.and_eq_true, Bool.or_eq_true] at a
  refine ⟨fun i hi => mOk_at (a i hi).1.1.1.1.1, fun i hi => ?_, fun i hi => ⟨Nat.eq_of_beq_eq_true (a i hi).1.1.1.2, ?_⟩, fun i hi => ?_, fun i hi z => ?_, fun c hc => ?_, Nat.eq_of_beq_eq_true e3⟩
  · simpa [Nat.blt_eq] using (a i hi).1.1.1.1.2
  · simpa [Nat.blt_eq] using (a i hi).1.1.2
  · rcases (a i hi).1.2 with h | h
    · exact .inl (Nat.eq_of_beq_eq_true h)
    · exact .inr (by simpa [Nat.blt_eq] using h)
  · rcases (a i hi).2 with y | ⟨y1, y2⟩
    · rw [z] at y; cases y
    · exact ⟨Nat.eq_of_beq_eq_true y1, by simpa [Nat.blt_eq] using y2⟩
  · have := e2 c (List.mem_range.mpr hc)
    rw [Bool.and_eq_true] at this
    exact ⟨by simpa [Nat.blt_eq] using this.1, Nat.eq_of_beq_eq_true this.2⟩
def wMs (H A : Nat) : List (Option Int) := natMs (4 * H + 3 * A) (wM H A)
section
variable {H A : Nat} (W : WordOk H A) (hH : H < 20) (hA : A < 21) (h0 : 0 < H ∨ 0 < A)
include W hH hA h0
theorem word_skin : SkinOk (wOn (4 * H + 3 * A)) (wMs H A) := by
  have hm := W.mt
  generalize hn : 4 * H + 3 * A = n at *
  have ln := wOn_len n
  refine ⟨by rw [ln]; omega, by rw [ln]; omega, by rw [ln]; unfold wMs; rw [natMs_len, hn], fun x hx => ?_, ?_, fun y y0 y1 => ?_, fun i m e => ?_⟩
  · obtain ⟨y, hy, rfl⟩ := List.mem_map.mp hx
    rw [ln]
    exact ⟨Int.emod_nonneg _ (by omega), Int.emod_lt_of_pos _ (by omega)⟩
  · unfold wOn
    rw [List.nodup_iff_pairwise_ne, List.pairwise_map]
    refine List.Pairwise.imp_of_mem ?_ (rngL_lt n)
    intro a b ha hb lt e
    have ga := rngL_mem.mp ha
    have gb := rngL_mem.mp hb
    unfold InR at ga gb
    rw [Int.emod_eq_of_lt (by omega) (by omega : a + 1 < n)] at e
    by_cases c : b + 1 = n
    · rw [c, Int.emod_self] at e; omega
    · rw [Int.emod_eq_of_lt (by omega) (by omega)] at e; omega
  · rw [ln] at y1
    by_cases c : y = 0
    · exact List.mem_map.mpr ⟨(n : Int) - 1, rngL_mem.mpr (by unfold InR; omega), by rw [show (n : Int) - 1 + 1 = n by omega, Int.emod_self, c]⟩
    · exact List.mem_map.mpr ⟨y - 1, rngL_mem.mpr (by unfold InR; omega), by rw [show y - 1 + 1 = y by omega]; exact Int.emod_eq_of_lt y0 y1⟩
  · rw [ln]
    unfold wMs at e ⊢
    rw [hn] at e ⊢
    exact natMs_ok hm i m e
theorem word_ahd {i : Nat} (hi : i < 4 * H + 3 * A) : ahd (wOn (4 * H + 3 * A)) (i : Int) = ((wA H A i : Nat) : Int) := by
  have S := word_skin W hH hA h0
  have hb : wA H A i < 4 * H + 3 * A := by unfold wA; split <;> omega
  have e : lk (wOn (4 * H + 3 * A)) ((wA H A i : Nat) : Int) = (i : Int) := by
    rw [wOn_at hb]
    unfold wA
    by_cases c : i = 0
    · rw [if_pos c, if_pos (by omega), c]
    · rw [if_neg c, if_neg (by omega)]; omega
  rw [← e]
  exact S.ahL (by rw [wOn_len]; exact inR_nat.mpr hb)
theorem word_pL {i : Nat} (hi : i < 4 * H + 3 * A) : pL (wOn (4 * H + 3 * A)) (wMs H A) (i : Int) = ((wL H A i : Nat) : Int) := by
  unfold pL lefM wL
  rw [word_ahd W hH hA h0 hi]
  have hb : wA H A i < 4 * H + 3 * A := by unfold wA; split <;> omega
  unfold wMs
  rw [natMs_at hb]
  cases wM H A (wA H A i) <;> rfl
theorem word_con : ∀ x, InR (wOn (4 * H + 3 * A)).length x → Rch (wOn (4 * H + 3 * A)) (wMs H A) 0 x := fun x g => by
  rw [wOn_len] at g
  obtain ⟨i, hi, rfl⟩ := nat_of g
  clear g
  induction i with
  | zero => exact .self
  | succ i ih =>
    have k := (ih (by omega)).next
    rw [wOn_at (by omega), if_neg (by omega)] at k
    exact k
theorem word_row : (partsL (wOn (4 * H + 3 * A)) (wMs H A)).map (rowL (wOn (4 * H + 3 * A)) (wMs H A)) = [[1 + (A : Int), 2 * (H : Int) + 2 * A, 1, (A : Int), (H : Int)]] := by
  have S := word_skin W hH hA h0
  have con := word_con W hH hA h0
  have ln := wOn_len (4 * H + 3 * A)
  have hk : cN (rngL (wOn (4 * H + 3 * A)).length) (stp (rngL (wOn (4 * H + 3 * A)).length) (pL (wOn (4 * H + 3 * A)) (wMs H A))) = 1 + A := by
    rw [ln]
    exact cor_count (fun i hi => word_pL W hH hA h0 hi) W.lt W.co W.rk W.ca
  have hp : cN (rngL (wOn (4 * H + 3 * A)).length) (stp (rngL (wOn (4 * H + 3 * A)).length) (lk (wOn (4 * H + 3 * A)))) = 1 := by
    rw [ln]
    refine cor_count (L := fun i => if i + 1 = 4 * H + 3 * A then 0 else i + 1) (cor := fun _ => 0) (can := fun _ => 0) (rank := fun i => if i = 0 then 0 else 4 * H + 3 * A - i) (fun i hi => wOn_at hi) (fun i hi => ?_) (fun i hi => ⟨rfl, by omega⟩) (fun i hi => ?_) (fun c hc => ⟨by omega, by omega⟩)
    · split <;> omega
    · by_cases z : i = 0
      · exact .inl z
      · right
        rw [if_neg z]
        by_cases c : i + 1 = 4 * H + 3 * A
        · rw [if_pos c, if_pos rfl]; omega
        · rw [if_neg c, if_neg (by omega)]; omega
  have hu : ((rngL (wOn (4 * H + 3 * A)).length).filter fun x => decide (lkM (wMs H A) x = none)).length = A := by
    rw [ln]
    unfold wMs
    rw [natMs_free, W.un]
  have hr : cN ((rngL (wOn (4 * H + 3 * A)).length).filter fun x => decide (lkM (wMs H A) x = none)) (stp ((rngL (wOn (4 * H + 3 * A)).length).filter fun x => decide (lkM (wMs H A) x = none)) (pR (wOn (4 * H + 3 * A)) (wMs H A))) = A := by
    rw [cN_ids _ _ (fun x y r => ?_), hu]
    obtain ⟨hx, rfl⟩ := r
    obtain ⟨h1, h2⟩ := List.mem_filter.mp hx
    have g := rngL_mem.mp h1
    have h2 := of_decide_eq_true h2
    have g' := g
    rw [ln] at g'
    obtain ⟨i, hi, rfl⟩ := nat_of g'
    have em : wM H A i = none := by
      unfold wMs at h2
      rw [natMs_at hi] at h2
      cases e : wM H A i with
      | none => rfl
      | some m => rw [e] at h2; cases h2
    obtain ⟨l1, l2⟩ := W.al i hi em
    unfold pR
    rw [wOn_at hi, if_neg (by omega)]
    have gy : InR (wOn (4 * H + 3 * A)).length (((i + 1 : Nat)) : Int) := by rw [ln]; exact inR_nat.mpr l2
    have k := pL_knot S g
    rw [word_pL W hH hA h0 hi, l1] at k
    have hc := (S.part_knot.cls (i : Int) (rngL_mem.mpr g)).2.2 _ k
    exact fst_only S gy ((hc.2 _).mpr (S.self_knot g)) h2
  obtain ⟨s, g, e1, e2, e3⟩ := one_row S con hk hp hu hr
  rw [ln] at e2
  rw [one_parts S con]
  show [rowL _ _ _] = _
  rw [e1]
  have eg : g = H := by omega
  have es : s = 2 * (H : Int) + 2 * A := by omega
  rw [eg, es, show ((1 + A : Nat) : Int) = 1 + (A : Int) by omega]; rfl
end
end Hs
set_option Elab.async false
set_option linter.all false
set_option maxRecDepth 100000
set_option maxHeartbeats 1000000
namespace Hs
open PySem L2
theorem rngL_four (i : Nat) : rngL (4 * (i + 1)) = rngL (4 * i) ++ [4 * (i : Int), 4 * (i : Int) + 1, 4 * (i : Int) + 2, 4 * (i : Int) + 3] := by
  unfold rngL
  rw [show 4 * (i + 1) = 4 * i + 1 + 1 + 1 + 1 by omega, List.range_succ, List.range_succ, List.range_succ, List.range_succ]
  simp only [List.map_append, List.append_assoc, List.map_cons, List.map_nil, List.cons_append, List.nil_append]
  congr 2
section
variable {on : List Int} {ms : List (Option Int)} (S : SkinOk on ms)
include S
end
end Hs
set_option Elab.async false
set_option linter.all false
set_option maxRecDepth 100000
set_option maxHeartbeats 4000000
namespace Hs
open PySem L2
section
variable {P : Program} {w : World} {K : PySem.W.Frag} {mg : Str → Option Value} {base : Heap} {f : Addr} {fd : FuncData}  {tM : Tok}
theorem scNet : FnScope ["wide", "high", "round_wide", "round_high", "onward", "mates", "place", "x", "y", "south", "north", "east", "west", "row", "lacks", "mate", "lack"] ["wide", "high", "round_wide", "round_high"] (defScope s__law_net) := ⟨rfl, rfl, rfl, by decide +kernel, rfl, by decide +kernel, by decide +kernel⟩
theorem lc_zipL {K : PySem.W.Frag} {a b : Addr} {xs ys : List V} {g : TG} {tt : TT} {te : TE} {vs : List Nat} {σ : St} {H1 : Hp} {D : Addr} {Qd : Hp → Prop} (hlen : ys.length = xs.length) (Pv : Nat → Hp → Prop) (h0 : Pv 0 (upd H1 D (.lst []))) (hl : ∀ i H, i ≤ xs.length → Pv i H → SqL K H a xs ∧ SqL K H b ys)
    (hs : ∀ i x y T H, xs[i]? = some x → ys[i]? = some y → Pv i H → H T = none → g (.ref T) (wipe σ vs) (upd H T (.tup [x, y])) fun σ2 H2 => wipe σ2 vs = wipe σ vs ∧ tt σ2 H2 fun b H3 =>
      if b = true then te σ2 H3 fun y H4 => ∃ acc, H4 D = some (.lst acc) ∧ acc.length < sizeLine ∧ Pv (i + 1) (upd H4 D (.lst (acc ++ [y]))) else Pv (i + 1) H3) (hd : ∀ H, Pv xs.length H → Qd H) :
    ∃ W : Nat → Nat → Hp → Prop, (∃ m, W 0 m (upd H1 D (.lst []))) ∧ ∀ i m H, W i m H →
      ((Itz K a b).stop i H ∧ Qd H) ∨ ((Itz K a b).go i H ∧ ∃ Nx : Hp → Prop, (∀ H', Nx H' → ∃ m', m' < m ∧ W (i + 1) m' H') ∧ ∀ x H', (Itz K a b).yld i H x H' → g x (wipe σ vs) H' fun σ2 H2 => wipe σ2 vs = wipe σ vs ∧ tt σ2 H2 fun b H3 =>
        if b = true then te σ2 H3 fun y H4 => ∃ acc, H4 D = some (.lst acc) ∧ acc.length < sizeLine ∧ Nx (upd H4 D (.lst (acc ++ [y]))) else Nx H3) := by
  refine ⟨fun i m H => m = xs.length - i ∧ i ≤ xs.length ∧ Pv i H, ⟨xs.length, by simp, Nat.zero_le _, h0⟩, ?_⟩
  rintro i m H ⟨rfl, hi, p⟩
  obtain ⟨q1, q2⟩ := hl i H hi p
  by_cases hlt : i < xs.length
  · have hx : xs[i]? = some (xs[i]'hlt) := List.getElem?_eq_getElem hlt
    have hy : ys[i]? = some (ys[i]'(by omega)) := List.getElem?_eq_getElem (by omega)
    refine .inr ⟨⟨xs, ys, _, _, q1, q2, hx, hy⟩, Pv (i + 1), fun H' p' => ⟨xs.length - (i + 1), by omega, rfl, hlt, p'⟩, fun v H' y => ?_⟩
    obtain ⟨T, x, y, rfl, hT, rfl, a1, a2⟩ := y
    exact hs i x y T _ (a1 xs q1) (a2 ys q2) p hT
  · have e : i = xs.length := by omega
    subst e
    exact .inl ⟨⟨xs, ys, q1, q2, .inl (Nat.le_refl _)⟩, hd H p⟩
theorem and_val {c d : Bool} {tb : TE} {σ : L2.St} {H : Hp} {Q : VK} (htb : ∀ Q' : VK, Q' (.bl d) H → tb σ H Q') (q : Q (.bl (c && d)) H) : if c = true then tb σ H Q else Q (.bl false) H := by
  cases c
  · exact q
  · exact htb Q q
theorem emod_less {y h : Nat} (hh : 1 ≤ h) : ((y : Int) - 1) % (h : Int) = (((y + h - 1) % h : Nat) : Int) := by
  rw [Int.natCast_emod, show (((y + h - 1 : Nat)) : Int) = (y : Int) - 1 + h by omega, Int.add_emod_right]
theorem nm0 {w h way i : Nat} (hw : 1 ≤ w) (hh : 1 ≤ h) : (if (decide (V.int ((i : Int) / (w : Int)) = V.int 0) && !decide (1 < way)) = true then V.non else V.int (4 * ((((i : Int) / (w : Int) - 1) % (h : Int)) * (w : Int) + (i : Int) % (w : Int)) + 2)) = mV (Option.map (fun m : Nat => (m : Int)) (nM w h way (4 * i))) := by
  unfold nM
  rw [if_pos (show 4 * i % 4 = 0 by omega), show 4 * i / 4 = i by omega, ← Int.natCast_ediv, ← Int.natCast_emod, emod_less hh, dec_int]
  by_cases c : i / w = 0 ∧ way ≤ 1
  · rw [if_pos c, if_pos (by simp; omega)]; rfl
  · rw [if_neg c, if_neg (by simp; omega)]
    show _ = V.int _
    simp only [Int.natCast_add, Int.natCast_mul]; rfl
theorem nm1 {w h way i : Nat} (hw : 1 ≤ w) (hh : 1 ≤ h) : (if (decide (V.int ((i : Int) % (w : Int)) = V.int ((w : Int) - 1)) && !decide (0 < way)) = true then V.non else V.int (4 * ((i : Int) / (w : Int) * (w : Int) + ((i : Int) % (w : Int) + 1) % (w : Int)) + 3)) = mV (Option.map (fun m : Nat => (m : Int)) (nM w h way (4 * i + 1))) := by
  unfold nM
  rw [if_neg (show ¬ (4 * i + 1) % 4 = 0 by omega), if_pos (show (4 * i + 1) % 4 = 1 by omega), show (4 * i + 1) / 4 = i by omega, ← Int.natCast_ediv, ← Int.natCast_emod, dec_int]
  by_cases c : i % w = w - 1 ∧ way = 0
  · rw [if_pos c, if_pos (by simp; omega)]; rfl
  · rw [if_neg c, if_neg (by simp; omega)]
    show _ = V.int _
    simp only [Int.natCast_add, Int.natCast_mul, Int.natCast_emod]; rfl
theorem nm2 {w h way i : Nat} (hw : 1 ≤ w) (hh : 1 ≤ h) : (if (decide (V.int ((i : Int) / (w : Int)) = V.int ((h : Int) - 1)) && !decide (1 < way)) = true then V.non else V.int (4 * ((((i : Int) / (w : Int) + 1) % (h : Int)) * (w : Int) + (i : Int) % (w : Int)))) = mV (Option.map (fun m : Nat => (m : Int)) (nM w h way (4 * i + 2))) := by
  unfold nM
  rw [if_neg (show ¬ (4 * i + 2) % 4 = 0 by omega), if_neg (show ¬ (4 * i + 2) % 4 = 1 by omega), if_pos (show (4 * i + 2) % 4 = 2 by omega), show (4 * i + 2) / 4 = i by omega, ← Int.natCast_ediv, ← Int.natCast_emod, dec_int]
  by_cases c : i / w = h - 1 ∧ way ≤ 1
  · rw [if_pos c, if_pos (by simp; omega)]; rfl
  · rw [if_neg c, if_neg (by simp; omega)]
    show _ = V.int _
    simp only [Int.natCast_add, Int.natCast_mul, Int.natCast_emod]; rfl
theorem nm3 {w h way i : Nat} (hw : 1 ≤ w) (hh : 1 ≤ h) : (if (decide (V.int ((i : Int) % (w : Int)) = V.int 0) && !decide (0 < way)) = true then V.non else V.int (4 * ((i : Int) / (w : Int) * (w : Int) + ((i : Int) % (w : Int) - 1) % (w : Int)) + 1)) = mV (Option.map (fun m : Nat => (m : Int)) (nM w h way (4 * i + 3))) := by
  unfold nM
  rw [if_neg (show ¬ (4 * i + 3) % 4 = 0 by omega), if_neg (show ¬ (4 * i + 3) % 4 = 1 by omega), if_neg (show ¬ (4 * i + 3) % 4 = 2 by omega), show (4 * i + 3) / 4 = i by omega, ← Int.natCast_ediv, ← Int.natCast_emod, emod_less hw, dec_int]
  by_cases c : i % w = 0 ∧ way = 0
  · rw [if_pos c, if_pos (by simp; omega)]; rfl
  · rw [if_neg c, if_neg (by simp; omega)]
    show _ = V.int _
    simp only [Int.natCast_add, Int.natCast_mul]; rfl
def spNet : Sp := fun vs H Q _ => ∃ (w h way : Nat), vs = [.int (w : Int), .int (h : Int), .bl (decide (0 < way)), .bl (decide (1 < way))] ∧ 1 ≤ w ∧ w ≤ 9 ∧ 1 ≤ h ∧ h ≤ 9 ∧
  ∀ r po pm H', Same H H' → H' r = some (.tup [.ref po, .ref pm]) → H' po = some (.tup ((netOn (4 * (w * h))).map V.int)) → H' pm = some (.tup ((netMs w h way).map mV)) → Q (.ref r) H'
theorem ok_net (B : Bi mg) (hZip : mg "zip" = none) (F : Fun K "_law_net" "_law_net" s__law_net f fd) : FnOk P w K mg base CX0 1 f fd ["wide", "high", "round_wide", "round_high"] spNet := by
  refine F.ok scNet (fun vs H Q E h => ?_) (fun cdv A outer s H vs Q E hr h => ?_)
  · obtain ⟨w, h, way, rfl, _⟩ := h; rfl
  obtain ⟨wd, hg, way, rfl, hw1, hw9, hh1, hh9, q⟩ := h
  refine ⟨_, (pss_cons (ps_set (i := 4) scNet.nd rfl (Or.inl rfl) (pe_lst pa_nil))
   (pss_cons (ps_set (i := 5) scNet.nd rfl (Or.inl rfl) (pe_lst pa_nil))
   (pss_cons (ps_for PassesOwn.never rfl (pi_range1 rfl B.range_ (pa_cons (pe_op op_mul (pv 0) (pv 1)) pa_nil)) (pg_name (i := 6) scNet.nd rfl (Or.inl rfl))
   (pss_cons (ps_set (i := 7) scNet.nd rfl (Or.inl rfl) (pe_op op_mod (pv 6) (pv 0)))
   (pss_cons (ps_set (i := 8) scNet.nd rfl (Or.inl rfl) (pe_op op_fdiv (pv 6) (pv 0)))
   (pss_cons (ps_expr (pe_bm PySem.F.plainAttrs_list PySem.F.slot_list_extend PySem.F.type_list_extend mt_extend (pv 4) (pa_cons (pe_lst (pa_cons (pe_op op_add (pe_op op_mul pe_int (pv 6)) pe_int) (pa_cons (pe_op op_add (pe_op op_mul pe_int (pv 6)) pe_int) (pa_cons (pe_op op_add (pe_op op_mul pe_int (pv 6)) pe_int) (pa_cons (pe_op op_mul pe_int (pv 6)) pa_nil))))) pa_nil)))
   (pss_cons (ps_set (i := 9) scNet.nd rfl (Or.inl rfl) (pe_op op_add (pe_op op_mul (pe_op op_mod (pe_op op_sub (pv 8) pe_int) (pv 1)) (pv 0)) (pv 7)))
   (pss_cons (ps_set (i := 10) scNet.nd rfl (Or.inl rfl) (pe_op op_add (pe_op op_mul (pe_op op_mod (pe_op op_add (pv 8) pe_int) (pv 1)) (pv 0)) (pv 7)))
   (pss_cons (ps_set (i := 11) scNet.nd rfl (Or.inl rfl) (pe_op op_add (pe_op op_mul (pv 8) (pv 0)) (pe_op op_mod (pe_op op_add (pv 7) pe_int) (pv 0))))
   (pss_cons (ps_set (i := 12) scNet.nd rfl (Or.inl rfl) (pe_op op_add (pe_op op_mul (pv 8) (pv 0)) (pe_op op_mod (pe_op op_sub (pv 7) pe_int) (pv 0))))
   (pss_cons (ps_set (i := 13) scNet.nd rfl (Or.inl rfl) (pe_lst (pa_cons (pe_op op_add (pe_op op_mul pe_int (pv 9)) pe_int) (pa_cons (pe_op op_add (pe_op op_mul pe_int (pv 11)) pe_int) (pa_cons (pe_op op_mul pe_int (pv 10)) (pa_cons (pe_op op_add (pe_op op_mul pe_int (pv 12)) pe_int) pa_nil))))))
   (pss_cons (ps_set (i := 14) scNet.nd rfl (Or.inl rfl) (pe_lst (pa_cons (pe_and (pe_cmpR op_eq (pv 8) pe_int (nomark _)) (pe_one (pe_not (pv 3)))) (pa_cons (pe_and (pe_cmpR op_eq (pv 7) (pe_op op_sub (pv 0) pe_int) (nomark _)) (pe_one (pe_not (pv 2)))) pa_nil))))
   (pss_cons (ps_set (i := 14) scNet.nd rfl (Or.inl rfl) (pe_op op_cat (pv 14) (pe_lst (pa_cons (pe_and (pe_cmpR op_eq (pv 8) (pe_op op_sub (pv 1) pe_int) (nomark _)) (pe_one (pe_not (pv 3)))) (pa_cons (pe_and (pe_cmpR op_eq (pv 7) pe_int (nomark _)) (pe_one (pe_not (pv 2)))) pa_nil)))))
   (pss_one (ps_expr (pe_bm PySem.F.plainAttrs_list PySem.F.slot_list_extend PySem.F.type_list_extend mt_extend (pv 5) (pa_cons (pe_lc (own := [("mate", 15), ("lack", 16)]) (g := gTup K 2 (gCons (gName 15) (gCons (gName 16) gNil))) rfl scNet.nd (pi_zip rfl hZip (pa_cons (pv 13) (pa_cons (pv 14) pa_nil))) (blkOk_by (own := [("mate", 15), ("lack", 16)]) (N := ["wide", "high", "round_wide", "round_high", "onward", "mates", "place", "x", "y", "south", "north", "east", "west", "row", "lacks", "mate", "lack"]) (sc := (defScope s__law_net)) (by decide +kernel)) (fun _ _ _ _ _ => (pg_tup rfl (pgs_cons (pg_name (i := 15) scNet.nd rfl (Or.inl rfl)) (pgs_cons (pg_name (i := 16) scNet.nd rfl (Or.inl rfl)) pgs_nil)))) (fun _ _ _ _ _ => pts_nil) (fun _ _ _ _ _ => (pe_ifExp (pt_val (pv 16)) pe_non (pv 15)))) pa_nil)))))))))))))))
   (pss_one (ps_ret (pe_tup (pa_cons (pe_callTy call_tuple_of rfl B.tuple_ bt_tuple (pa_cons (pv 4) pa_nil)) (pa_cons (pe_callTy call_tuple_of rfl B.tuple_ bt_tuple (pa_cons (pv 5) pa_nil)) pa_nil)))))))), ?_⟩
  refine ⟨(by show 0 ≤ sizeLine; decide), fun lo hlo => ⟨(by show 0 ≤ sizeLine; decide), fun lm hlm => ?_⟩⟩
  have nlm : lm ≠ lo := (ne_of_none upd_same hlm).symm
  have sA := (same_put hlo (.lst [])).trans (same_put hlm (.lst []))
  have go := up hlm (upd_same (H := H) (a := lo) (o := .lst [])) (o := .lst [])
  have gm := upd_same (H := upd H lo (.lst [])) (a := lm) (o := .lst [])
  have fo : H lo = none := hlo
  have fm : H lm = none := by
    rw [upd_ne nlm] at hlm; exact hlm
  have sA : ∀ c o, c ≠ lo → c ≠ lm → H c = some o → upd (upd H lo (.lst [])) lm (.lst []) c = some o := fun c o _ _ h => sA c o h
  generalize upd (upd H lo (.lst [])) lm (.lst []) = HA at sA go gm ⊢
  have sz := net_size ⟨hw1, hw9⟩ ⟨hh1, hh9⟩
  have ewh : (wd : Int) * (hg : Int) = ((wd * hg : Nat) : Int) := by rw [Int.natCast_mul]
  generalize hn : wd * hg = n at *
  refine ⟨_, rfl, _, rfl, _, _, rfl, rfl, .inl (by omega), (n : Int), (by show [V.int ((wd : Int) * (hg : Int))] = [V.int (n : Int)]; rw [ewh]), by omega, by omega, for_range (lo := 0)
    (fun i σ H' => ∃ (o6 o7 o8 o9 o10 o11 o12 o13 o14 o15 o16 : Option V), σ = [some (.int (wd : Int)), some (.int (hg : Int)), some (.bl (decide (0 < way))), some (.bl (decide (1 < way))), some (.ref lo), some (.ref lm), o6, o7, o8, o9, o10, o11, o12, o13, o14, o15, o16] ∧ (∀ c o, c ≠ lo → c ≠ lm → H c = some o → H' c = some o) ∧ H' lo = some (.lst (((rngL (4 * i)).map fun x => if x % 4 = 3 then x - 3 else x + 1).map V.int)) ∧ H' lm = some (.lst (((rngL (4 * i)).map fun x => Option.map (fun m : Nat => (m : Int)) (nM wd hg way x.toNat)).map mV)))
    ⟨_, _, _, _, _, _, _, _, _, _, _, rfl, sA, go, gm⟩ ?_ ?_⟩
  · rintro i σ H' hi ⟨o6, o7, o8, o9, o10, o11, o12, o13, o14, o15, o16, rfl, s1, g1, g2⟩
    rw [Int.zero_add]
    have hi : i < n := by omega
    refine ⟨_, rfl, _, rfl, _, _, rfl, rfl, (by show (0 : Int) < wd; omega), ?_⟩
    refine ⟨_, rfl, _, rfl, _, _, rfl, rfl, ⟨(by show (0 : Int) < wd; omega), by omega⟩, ?_⟩
    have eX : (i : Int) % (wd : Int) = ((i % wd : Nat) : Int) := (Int.natCast_emod i wd).symm
    have eY : (i : Int) / (wd : Int) = ((i / wd : Nat) : Int) := (Int.natCast_ediv i wd).symm
    refine ⟨_, rfl, .inl ⟨rfl, _, SqL.of g1⟩, ?_⟩
    refine ⟨_, rfl, _, _, rfl, rfl, .inl (by decide), _, _, rfl, rfl, _, rfl, _, _, rfl, rfl, .inl (by decide), _, _, rfl, rfl, _, rfl, _, _, rfl, rfl, .inl (by decide), _, _, rfl, rfl, _, rfl, _, _, rfl, rfl, .inl (by decide), ?_⟩
    refine ⟨(by show 4 ≤ sizeLine; decide), fun la hla => ?_⟩
    have nla : la ≠ lm := (ne_of_none g2 hla).symm
    refine ⟨lo, la, _, _, rfl, rfl, up hla g1, upd_same, by rw [List.length_map, List.length_map, rngL_len, sizeLine_eq]; show 4 * i + 4 ≤ _; omega, ?_⟩
    generalize hZ : upd (upd H' la _) lo _ = H2
    have g1' : H2 lo = some (.lst (((rngL (4 * (i + 1))).map fun x => if x % 4 = 3 then x - 3 else x + 1).map V.int)) := by
      rw [← hZ, upd_same]
      refine congrArg some (congrArg HO.lst ?_)
      rw [rngL_four, List.map_append, List.map_append]
      congr 1
      show _ = [V.int (if (4 * (i : Int)) % 4 = 3 then 4 * (i : Int) - 3 else 4 * (i : Int) + 1), V.int (if (4 * (i : Int) + 1) % 4 = 3 then 4 * (i : Int) + 1 - 3 else 4 * (i : Int) + 1 + 1), V.int (if (4 * (i : Int) + 2) % 4 = 3 then 4 * (i : Int) + 2 - 3 else 4 * (i : Int) + 2 + 1), V.int (if (4 * (i : Int) + 3) % 4 = 3 then 4 * (i : Int) + 3 - 3 else 4 * (i : Int) + 3 + 1)]
      rw [if_neg (by omega), if_neg (by omega), if_neg (by omega), if_pos (by omega)]
      show [V.int (4 * (i : Int) + 1), V.int (4 * (i : Int) + 2), V.int (4 * (i : Int) + 3), V.int (4 * (i : Int))] = _
      rw [show 4 * (i : Int) + 1 + 1 = 4 * (i : Int) + 2 by omega, show 4 * (i : Int) + 2 + 1 = 4 * (i : Int) + 3 by omega, show 4 * (i : Int) + 3 - 3 = 4 * (i : Int) by omega]
    have g2' : H2 lm = some (.lst (((rngL (4 * i)).map fun x => Option.map (fun m : Nat => (m : Int)) (nM wd hg way x.toNat)).map mV)) := by rw [← hZ, upd_ne nlm]; exact up hla g2
    have s2 : ∀ c o, c ≠ lo → c ≠ lm → H c = some o → H2 c = some o := fun c o c1 c2 h => by rw [← hZ, upd_ne c1]; exact up hla (s1 c o c1 c2 h)
    clear hZ
    have W0 : (0 : Int) < wd := by omega
    have H0 : (0 : Int) < hg := by omega
    have CW : ∀ z : Int, CMul z (wd : Int) := fun z => .inr ⟨by omega, by omega⟩
    refine ⟨_, rfl, _, _, rfl, rfl, _, rfl, _, _, rfl, rfl, H0, _, rfl, _, _, rfl, rfl, CW _, _, rfl, _, _, rfl, rfl, ?_⟩
    refine ⟨_, rfl, _, _, rfl, rfl, _, rfl, _, _, rfl, rfl, H0, _, rfl, _, _, rfl, rfl, CW _, _, rfl, _, _, rfl, rfl, ?_⟩
    refine ⟨_, rfl, _, rfl, _, _, rfl, rfl, CW _, _, rfl, _, _, rfl, rfl, _, rfl, _, _, rfl, rfl, W0, _, _, rfl, rfl, ?_⟩
    refine ⟨_, rfl, _, rfl, _, _, rfl, rfl, CW _, _, rfl, _, _, rfl, rfl, _, rfl, _, _, rfl, rfl, W0, _, _, rfl, rfl, ?_⟩
    refine ⟨_, rfl, _, _, rfl, rfl, .inl (by decide), _, _, rfl, rfl, _, rfl, _, _, rfl, rfl, .inl (by decide), _, _, rfl, rfl, _, rfl, _, _, rfl, rfl, .inl (by decide), _, rfl, _, _, rfl, rfl, .inl (by decide), _, _, rfl, rfl, ?_⟩
    refine ⟨(by show 4 ≤ sizeLine; decide), fun lr hlr => ?_⟩
    refine ⟨_, rfl, rfl, _, rfl, and_val (fun Q' q' => ⟨_, rfl, _, rfl, q'⟩) ?_⟩
    refine ⟨_, rfl, _, rfl, _, _, rfl, rfl, rfl, _, rfl, and_val (fun Q' q' => ⟨_, rfl, _, rfl, q'⟩) ?_⟩
    refine ⟨(by show 2 ≤ sizeLine; decide), fun l1 hl1 => ?_⟩
    refine ⟨_, rfl, _, rfl, _, rfl, _, _, rfl, rfl, rfl, _, rfl, and_val (fun Q' q' => ⟨_, rfl, _, rfl, q'⟩) ?_⟩
    refine ⟨_, rfl, rfl, _, rfl, and_val (fun Q' q' => ⟨_, rfl, _, rfl, q'⟩) ?_⟩
    refine ⟨(by show 2 ≤ sizeLine; decide), fun l2 hl2 => ?_⟩
    refine ⟨l1, l2, _, _, rfl, rfl, up hl2 upd_same, upd_same, (by show 2 + 2 ≤ sizeLine; decide), fun l3 hl3 => ?_⟩
    generalize hZ : upd (upd (upd (upd H2 lr _) l1 _) l2 _) l3 _ = H6
    have nr : lr ≠ lo ∧ lr ≠ lm := ⟨(ne_of_none g1' hlr).symm, (ne_of_none g2' hlr).symm⟩
    have k6 : ∀ c o, H2 c = some o → H6 c = some o := fun c o h => by rw [← hZ]; exact up hl3 (up hl2 (up hl1 (up hlr h)))
    have r6 : H6 lr = some (.lst [V.int (4 * ((((i : Int) / (wd : Int) - 1) % (hg : Int)) * (wd : Int) + (i : Int) % (wd : Int)) + 2), V.int (4 * ((i : Int) / (wd : Int) * (wd : Int) + ((i : Int) % (wd : Int) + 1) % (wd : Int)) + 3), V.int (4 * ((((i : Int) / (wd : Int) + 1) % (hg : Int)) * (wd : Int) + (i : Int) % (wd : Int))), V.int (4 * ((i : Int) / (wd : Int) * (wd : Int) + ((i : Int) % (wd : Int) - 1) % (wd : Int)) + 1)]) := by
      rw [← hZ]; exact up hl3 (up hl2 (up hl1 upd_same))
    have b6 : H6 l3 = some (.lst [V.bl (decide (V.int ((i : Int) / (wd : Int)) = V.int 0) && !decide (1 < way)), V.bl (decide (V.int ((i : Int) % (wd : Int)) = V.int ((wd : Int) - 1)) && !decide (0 < way)), V.bl (decide (V.int ((i : Int) / (wd : Int)) = V.int ((hg : Int) - 1)) && !decide (1 < way)), V.bl (decide (V.int ((i : Int) % (wd : Int)) = V.int 0) && !decide (0 < way))]) := by
      rw [← hZ]; exact upd_same
    clear hZ
    have g1'' := k6 _ _ g1'
    have g2'' := k6 _ _ g2'
    refine ⟨_, rfl, .inl ⟨rfl, _, SqL.of g2''⟩, ?_⟩
    refine ⟨_, rfl, _, rfl, lr, l3, _, _, rfl, SqL.of r6, SqL.of b6, fun D hD => ?_⟩
    have nD : D ≠ lm ∧ D ≠ lo := ⟨(ne_of_none g2'' hD).symm, (ne_of_none g1'' hD).symm⟩
    generalize hX : [V.int (4 * ((((i : Int) / (wd : Int) - 1) % (hg : Int)) * (wd : Int) + (i : Int) % (wd : Int)) + 2), V.int (4 * ((i : Int) / (wd : Int) * (wd : Int) + ((i : Int) % (wd : Int) + 1) % (wd : Int)) + 3), V.int (4 * ((((i : Int) / (wd : Int) + 1) % (hg : Int)) * (wd : Int) + (i : Int) % (wd : Int))), V.int (4 * ((i : Int) / (wd : Int) * (wd : Int) + ((i : Int) % (wd : Int) - 1) % (wd : Int)) + 1)] = XS at r6
    generalize hY : [V.bl (decide (V.int ((i : Int) / (wd : Int)) = V.int 0) && !decide (1 < way)), V.bl (decide (V.int ((i : Int) % (wd : Int)) = V.int ((wd : Int) - 1)) && !decide (0 < way)), V.bl (decide (V.int ((i : Int) / (wd : Int)) = V.int ((hg : Int) - 1)) && !decide (1 < way)), V.bl (decide (V.int ((i : Int) % (wd : Int)) = V.int 0) && !decide (0 < way))] = YS at b6
    have lX : XS.length = 4 := by rw [← hX]; rfl
    have lY : YS.length = 4 := by rw [← hY]; rfl
    refine lc_zipL (K := K) (a := lr) (b := l3) (xs := XS) (ys := YS) (lY.trans lX.symm) (Pv := fun j H7 => Same H6 H7 ∧ H7 D = some (.lst ((((rngL (4 * i + j)).drop (4 * i)).map fun x => Option.map (fun m : Nat => (m : Int)) (nM wd hg way x.toNat)).map mV))) ⟨same_put hD _, by rw [upd_same, Nat.add_zero, List.drop_of_length_le (by rw [rngL_len]; exact Nat.le_refl _)]; rfl⟩ (fun j H7 _ pv => ⟨SqL.of (pv.1 _ _ r6), SqL.of (pv.1 _ _ b6)⟩) ?_ ?_
    · rintro j x y T H7 hx hy ⟨s7, g7⟩ hT
      have hj : j < 4 := by rw [← lX]; exact (List.getElem?_eq_some_iff.mp hx).1
      have key : ∃ (e : Int) (c : Bool), x = .int e ∧ y = .bl c ∧ (if c = true then V.non else V.int e) = mV (Option.map (fun m : Nat => (m : Int)) (nM wd hg way (4 * i + j))) := by
        rw [← hX] at hx
        rw [← hY] at hy
        match j, hx, hy with
        | 0, hx, hy => exact ⟨_, _, (Option.some.inj hx).symm, (Option.some.inj hy).symm, nm0 hw1 hh1⟩
        | 1, hx, hy => exact ⟨_, _, (Option.some.inj hx).symm, (Option.some.inj hy).symm, nm1 hw1 hh1⟩
        | 2, hx, hy => exact ⟨_, _, (Option.some.inj hx).symm, (Option.some.inj hy).symm, nm2 hw1 hh1⟩
        | 3, hx, hy => exact ⟨_, _, (Option.some.inj hx).symm, (Option.some.inj hy).symm, nm3 hw1 hh1⟩
      obtain ⟨e, c, rfl, rfl, ek⟩ := key
      have g8 := up hT g7 (o := .tup [V.int e, V.bl c])
      have s8 := s7.trans (same_put hT (.tup [V.int e, V.bl c]))
      refine ⟨T, _, rfl, SqT.of upd_same, rfl, _, _, rfl, _, _, rfl, rfl, ?_⟩
      refine ⟨rfl, yesT ?_⟩
      have fin : ∃ acc, upd H7 T (.tup [V.int e, V.bl c]) D = some (.lst acc) ∧ acc.length < sizeLine ∧ Same H6 (upd (upd H7 T (.tup [V.int e, V.bl c])) D (.lst (acc ++ [if c = true then V.non else V.int e]))) ∧ (upd (upd H7 T (.tup [V.int e, V.bl c])) D (.lst (acc ++ [if c = true then V.non else V.int e]))) D = some (.lst ((((rngL (4 * i + (j + 1))).drop (4 * i)).map fun x => Option.map (fun m : Nat => (m : Int)) (nM wd hg way x.toNat)).map mV)) := by
        refine ⟨_, g8, by rw [List.length_map, List.length_map, List.length_drop, rngL_len, sizeLine_eq]; omega, same_set s8 hD, ?_⟩
        rw [upd_same, ← Nat.add_assoc, rngL_snoc, List.drop_append_of_le_length (by rw [rngL_len]; omega), List.map_append, List.map_append, ek]
        show _ = some (HO.lst (_ ++ [mV (Option.map (fun m : Nat => (m : Int)) (nM wd hg way (((4 * i + j : Nat) : Int)).toNat))]))
        rw [Int.toNat_natCast]
      cases c
      · exact ⟨_, rfl, _, rfl, itN rfl ⟨_, rfl, fin⟩⟩
      · exact ⟨_, rfl, _, rfl, itP rfl fin⟩
    rintro H7 ⟨s7, g7⟩
    rw [lX] at g7
    refine ⟨lm, D, _, _, rfl, rfl, s7 _ _ g2'', g7, by rw [List.length_map, List.length_map, List.length_map, List.length_map, List.length_drop, rngL_len, rngL_len, sizeLine_eq]; omega, ?_⟩
    refine ⟨_, _, _, _, _, _, _, _, _, _, _, rfl, fun c o c1 c2 h => by rw [upd_ne c2]; exact s7 _ _ (k6 _ _ (s2 c o c1 c2 h)), by rw [upd_ne nlm.symm]; exact s7 _ _ g1'', ?_⟩
    rw [upd_same, ← List.map_append, ← List.map_append, show 4 * i + 4 = 4 * (i + 1) by omega, rngL_four, List.drop_left' (rngL_len _)]
  · rintro σ H' ⟨o6, o7, o8, o9, o10, o11, o12, o13, o14, o15, o16, rfl, s1, g1, g2⟩
    rw [Int.toNat_natCast] at g1 g2
    refine ⟨_, rfl, lo, _, rfl, .inl ⟨SqL.of g1, fun qo hqo => ?_⟩⟩
    refine ⟨_, rfl, lm, _, rfl, .inl ⟨SqL.of (up hqo g2), fun qm hqm => ?_⟩⟩
    refine ⟨(by show 2 ≤ sizeLine; decide), fun r hr0 => ?_⟩
    exact q r qo qm _ (fun c o h => up hr0 (up hqm (up hqo (s1 c o (ne_of_none h fo) (ne_of_none h fm) h)))) upd_same (up hr0 (up hqm upd_same)) (by
      have e : netMs wd hg way = (rngL (4 * n)).map fun x => Option.map (fun m : Nat => (m : Int)) (nM wd hg way x.toNat) := by unfold netMs natMs; rw [hn]
      rw [e]; exact up hr0 upd_same)
end
end Hs
set_option Elab.async false
set_option linter.all false
set_option maxRecDepth 100000
set_option maxHeartbeats 4000000
namespace Hs
open PySem L2
section
variable {P : Program} {w : World} {K : PySem.W.Frag} {mg : Str → Option Value} {base : Heap} {f : Addr} {fd : FuncData}  {tM : Tok}
theorem scWord : FnScope ["handles", "alone", "many", "mates", "k", "first", "half"] ["handles", "alone"] (defScope s__law_word_skin) := ⟨rfl, rfl, rfl, by decide +kernel, rfl, by decide +kernel, by decide +kernel⟩
def spWord : Sp := fun vs H Q _ => ∃ (h a : Nat), vs = [.int (h : Int), .int (a : Int)] ∧ h < 20 ∧ a < 21 ∧ (0 < h ∨ 0 < a) ∧
  ∀ r po pm H', Same H H' → H' r = some (.tup [.ref po, .ref pm]) → H' po = some (.tup ((wOn (4 * h + 3 * a)).map V.int)) → H' pm = some (.tup ((wMs h a).map mV)) → Q (.ref r) H'
theorem wm4 {h a i j : Nat} (hi : i < h) (hj : j < 4) : Option.map (fun m : Nat => (m : Int)) (wM h a (4 * i + j)) = some (if j < 2 then 4 * (i : Int) + j + 2 else 4 * (i : Int) + j - 2) := by
  unfold wM
  rw [if_pos (by omega), show (4 * i + j) % 4 = j by omega]
  by_cases c : j < 2
  · rw [if_pos c, if_pos c]
    show some (((4 * i + j + 2 : Nat)) : Int) = _
    exact congrArg some (by omega)
  · rw [if_neg c, if_neg c]
    show some (((4 * i + j - 2 : Nat)) : Int) = _
    exact congrArg some (by omega)
theorem wm3 {h a i j : Nat} (hj : j < 3) : Option.map (fun m : Nat => (m : Int)) (wM h a (4 * h + 3 * i + j)) = if j = 0 then some (4 * (h : Int) + 3 * i + 2) else if j = 1 then none else some (4 * (h : Int) + 3 * i) := by
  unfold wM
  rw [if_neg (by omega), show 4 * h + 3 * i + j - 4 * h = 3 * i + j by omega, show (3 * i + j) % 3 = j by omega]
  by_cases c : j = 0
  · rw [if_pos c, if_pos c]
    show some (((4 * h + 3 * i + j + 2 : Nat)) : Int) = _
    exact congrArg some (by omega)
  · rw [if_neg c, if_neg c]
    by_cases d : j = 1
    · rw [if_pos d, if_pos d]; rfl
    · rw [if_neg d, if_neg d]
      show some (((4 * h + 3 * i + j - 2 : Nat)) : Int) = _
      exact congrArg some (by omega)
theorem rngL_three (n : Nat) : rngL (n + 3) = rngL n ++ [(n : Int), (n : Int) + 1, (n : Int) + 2] := by
  rw [show n + 3 = n + 1 + 1 + 1 by omega, rngL_snoc, rngL_snoc, rngL_snoc]
  simp only [List.append_assoc, List.cons_append, List.nil_append]
  try rfl
theorem ok_word (B : Bi mg) (F : Fun K "_law_word_skin" "_law_word_skin" s__law_word_skin f fd) : FnOk P w K mg base CX0 1 f fd ["handles", "alone"] spWord := by
  refine F.ok scWord (fun vs H Q E h => ?_) (fun cdv A outer s H vs Q E hr h => ?_)
  · obtain ⟨h, a, rfl, _⟩ := h; rfl
  obtain ⟨hd, al, rfl, h20, a21, hpo, q⟩ := h
  refine ⟨_, (pss_cons (ps_set (i := 2) scWord.nd rfl (Or.inr rfl) (pe_op op_add (pe_op op_mul pe_int (pv 0)) (pe_op op_mul pe_int (pv 1))))
   (pss_cons (ps_set (i := 3) scWord.nd rfl (Or.inl rfl) (pe_lst pa_nil))
   (pss_cons (ps_for PassesOwn.never rfl (pi_range1 rfl B.range_ (pa_cons (pv 0) pa_nil)) (pg_name (i := 4) scWord.nd rfl (Or.inl rfl))
   (pss_cons (ps_set (i := 5) scWord.nd rfl (Or.inl rfl) (pe_op op_mul pe_int (pv 4)))
   (pss_one (ps_expr (pe_bm PySem.F.plainAttrs_list PySem.F.slot_list_extend PySem.F.type_list_extend mt_extend (pv 3) (pa_cons (pe_lst (pa_cons (pe_op op_add (pv 5) pe_int) (pa_cons (pe_op op_add (pv 5) pe_int) (pa_cons (pv 5) (pa_cons (pe_op op_add (pv 5) pe_int) pa_nil))))) pa_nil))))))
   (pss_cons (ps_for PassesOwn.never rfl (pi_range1 rfl B.range_ (pa_cons (pv 1) pa_nil)) (pg_name (i := 4) scWord.nd rfl (Or.inl rfl))
   (pss_cons (ps_set (i := 5) scWord.nd rfl (Or.inl rfl) (pe_op op_add (pe_op op_mul pe_int (pv 0)) (pe_op op_mul pe_int (pv 4))))
   (pss_one (ps_expr (pe_bm PySem.F.plainAttrs_list PySem.F.slot_list_extend PySem.F.type_list_extend mt_extend (pv 3) (pa_cons (pe_lst (pa_cons (pe_op op_add (pv 5) pe_int) (pa_cons pe_non (pa_cons (pv 5) pa_nil)))) pa_nil))))))
   (pss_one (ps_ret (pe_tup (pa_cons (pe_callTy call_tuple_of rfl B.tuple_ bt_tuple (pa_cons (pe_lc (own := [("half", 6)]) (g := gName 6) rfl scWord.nd (pi_range1 rfl B.range_ (pa_cons (pv 2) pa_nil)) (blkOk_by (own := [("half", 6)]) (N := ["handles", "alone", "many", "mates", "k", "first", "half"]) (sc := (defScope s__law_word_skin)) (by decide +kernel)) (fun _ _ _ _ _ => (pg_name (i := 6) scWord.nd rfl (Or.inl rfl))) (fun _ _ _ _ _ => pts_nil) (fun _ _ _ _ _ => (pe_op op_mod (pe_op op_add (pv 6) pe_int) (pv 2)))) pa_nil)) (pa_cons (pe_callTy call_tuple_of rfl B.tuple_ bt_tuple (pa_cons (pv 3) pa_nil)) pa_nil))))))))), ?_⟩
  refine ⟨_, rfl, _, _, rfl, rfl, .inl (by decide), _, rfl, _, _, rfl, rfl, .inl (by decide), _, _, rfl, rfl, ?_⟩
  refine ⟨(by show 0 ≤ sizeLine; decide), fun lm hlm => ?_⟩
  have em : (4 : Int) * (hd : Int) + 3 * (al : Int) = ((4 * hd + 3 * al : Nat) : Int) := by omega
  refine ⟨_, rfl, (hd : Int), rfl, by omega, by omega, for_range (lo := 0)
    (fun i σ H' => ∃ (o4 o5 : Option V), σ = [some (.int (hd : Int)), some (.int (al : Int)), some (.int ((4 : Int) * (hd : Int) + 3 * (al : Int))), some (.ref lm), o4, o5, none] ∧ (∀ c o, c ≠ lm → H c = some o → H' c = some o) ∧ H' lm = some (.lst (((rngL (4 * i)).map fun x => Option.map (fun m : Nat => (m : Int)) (wM hd al x.toNat)).map mV)))
    ⟨_, _, rfl, fun c o hc h => by rw [upd_ne hc]; exact h, upd_same⟩ ?_ ?_⟩
  · rintro i σ H' hi ⟨o4, o5, rfl, s1, g1⟩
    rw [Int.zero_add]
    have hi : i < hd := by omega
    refine ⟨_, rfl, _, _, rfl, rfl, .inl (by decide), ?_⟩
    refine ⟨_, rfl, .inl ⟨rfl, _, SqL.of g1⟩, ?_⟩
    refine ⟨_, rfl, _, _, rfl, rfl, _, rfl, _, _, rfl, rfl, _, rfl, _, rfl, _, _, rfl, rfl, ?_⟩
    refine ⟨(by show 4 ≤ sizeLine; decide), fun la hla => ?_⟩
    refine ⟨lm, la, _, _, rfl, rfl, up hla g1, upd_same, by rw [List.length_map, List.length_map, rngL_len, sizeLine_eq]; show 4 * i + 4 ≤ _; omega, ?_⟩
    refine ⟨_, _, rfl, fun c o hc h => by rw [upd_ne hc]; exact up hla (s1 c o hc h), ?_⟩
    rw [upd_same]
    refine congrArg some (congrArg HO.lst ?_)
    rw [rngL_four, List.map_append, List.map_append]
    congr 1
    have e := fun j hj => wm4 (h := hd) (a := al) (i := i) (j := j) hi hj
    show _ = [mV (Option.map (fun m : Nat => (m : Int)) (wM hd al (4 * (i : Int)).toNat)), mV (Option.map (fun m : Nat => (m : Int)) (wM hd al (4 * (i : Int) + 1).toNat)), mV (Option.map (fun m : Nat => (m : Int)) (wM hd al (4 * (i : Int) + 2).toNat)), mV (Option.map (fun m : Nat => (m : Int)) (wM hd al (4 * (i : Int) + 3).toNat))]
    rw [show (4 * (i : Int)).toNat = 4 * i + 0 by omega, show (4 * (i : Int) + 1).toNat = 4 * i + 1 by omega, show (4 * (i : Int) + 2).toNat = 4 * i + 2 by omega, show (4 * (i : Int) + 3).toNat = 4 * i + 3 by omega, e 0 (by decide), e 1 (by decide), e 2 (by decide), e 3 (by decide)]
    show [V.int (4 * (i : Int) + 2), V.int (4 * (i : Int) + 3), V.int (4 * (i : Int)), V.int (4 * (i : Int) + 1)] = [V.int (4 * (i : Int) + ((0 : Nat) : Int) + 2), V.int (4 * (i : Int) + ((1 : Nat) : Int) + 2), V.int (4 * (i : Int) + ((2 : Nat) : Int) - 2), V.int (4 * (i : Int) + ((3 : Nat) : Int) - 2)]
    rw [show 4 * (i : Int) + ((0 : Nat) : Int) + 2 = 4 * (i : Int) + 2 by omega, show 4 * (i : Int) + ((1 : Nat) : Int) + 2 = 4 * (i : Int) + 3 by omega, show 4 * (i : Int) + ((2 : Nat) : Int) - 2 = 4 * (i : Int) by omega, show 4 * (i : Int) + ((3 : Nat) : Int) - 2 = 4 * (i : Int) + 1 by omega]
  rintro σ HB ⟨o4, o5, rfl, sB, gB⟩
  rw [Int.toNat_natCast] at gB
  refine ⟨_, rfl, (al : Int), rfl, by omega, by omega, for_range (lo := 0)
    (fun i σ H' => ∃ (o4 o5 : Option V), σ = [some (.int (hd : Int)), some (.int (al : Int)), some (.int ((4 : Int) * (hd : Int) + 3 * (al : Int))), some (.ref lm), o4, o5, none] ∧ (∀ c o, c ≠ lm → H c = some o → H' c = some o) ∧ H' lm = some (.lst (((rngL (4 * hd + 3 * i)).map fun x => Option.map (fun m : Nat => (m : Int)) (wM hd al x.toNat)).map mV)))
    ⟨_, _, rfl, sB, gB⟩ ?_ ?_⟩
  · rintro i σ H' hi ⟨o4, o5, rfl, s1, g1⟩
    rw [Int.zero_add]
    have hi : i < al := by omega
    refine ⟨_, rfl, _, _, rfl, rfl, .inl (by decide), _, rfl, _, _, rfl, rfl, .inl (by decide), _, _, rfl, rfl, ?_⟩
    refine ⟨_, rfl, .inl ⟨rfl, _, SqL.of g1⟩, ?_⟩
    refine ⟨_, rfl, _, _, rfl, rfl, _, rfl, ?_⟩
    refine ⟨(by show 3 ≤ sizeLine; decide), fun la hla => ?_⟩
    refine ⟨lm, la, _, _, rfl, rfl, up hla g1, upd_same, by rw [List.length_map, List.length_map, rngL_len, sizeLine_eq]; show 4 * hd + 3 * i + 3 ≤ _; omega, ?_⟩
    refine ⟨_, _, rfl, fun c o hc h => by rw [upd_ne hc]; exact up hla (s1 c o hc h), ?_⟩
    rw [upd_same]
    refine congrArg some (congrArg HO.lst ?_)
    rw [show 4 * hd + 3 * (i + 1) = 4 * hd + 3 * i + 3 by omega, rngL_three, List.map_append, List.map_append]
    congr 1
    have e := fun j hj => wm3 (h := hd) (a := al) (i := i) (j := j) hj
    show _ = [mV (Option.map (fun m : Nat => (m : Int)) (wM hd al (((4 * hd + 3 * i : Nat)) : Int).toNat)), mV (Option.map (fun m : Nat => (m : Int)) (wM hd al ((((4 * hd + 3 * i : Nat)) : Int) + 1).toNat)), mV (Option.map (fun m : Nat => (m : Int)) (wM hd al ((((4 * hd + 3 * i : Nat)) : Int) + 2).toNat))]
    rw [show ((((4 * hd + 3 * i : Nat)) : Int)).toNat = 4 * hd + 3 * i + 0 by omega, show ((((4 * hd + 3 * i : Nat)) : Int) + 1).toNat = 4 * hd + 3 * i + 1 by omega, show ((((4 * hd + 3 * i : Nat)) : Int) + 2).toNat = 4 * hd + 3 * i + 2 by omega, e 0 (by decide), e 1 (by decide), e 2 (by decide)]
    rfl
  rintro σ H' ⟨o4, o5, rfl, s1, g1⟩
  rw [Int.toNat_natCast] at g1
  have npos : 0 < 4 * hd + 3 * al := by omega
  refine ⟨_, rfl, (((4 * hd + 3 * al : Nat)) : Int), (by show [V.int ((4 : Int) * (hd : Int) + 3 * (al : Int))] = _; rw [em]), by omega, by omega, fun D hD => ?_⟩
  have nD : D ≠ lm := (ne_of_none g1 hD).symm
  generalize hn : 4 * hd + 3 * al = n at *
  refine lc_range (lo := 0) (Pv := fun i H2 => Same H' H2 ∧ H2 D = some (.lst (((wOn n).take i).map V.int))) ⟨same_put hD _, upd_same⟩ ?_ ?_
  · rintro i H5 hi ⟨s5, g5⟩
    have hi : i < n := by omega
    rw [Int.zero_add]
    refine ⟨rfl, yesT ?_⟩
    have ed : (wOn n)[i]? = some (((i : Int) + 1) % (n : Int)) := by unfold wOn; rw [List.getElem?_map, rngL_get hi]; rfl
    refine ⟨_, rfl, _, _, rfl, rfl, _, rfl, _, _, rfl, rfl, (by show (0 : Int) < 4 * (hd : Int) + 3 * al; omega), ?_⟩
    refine ⟨_, g5, by rw [List.length_map, List.length_take, wOn_len, sizeLine_eq]; omega, same_set s5 hD, ?_⟩
    rw [upd_same, List.take_succ, ed, List.map_append, ← em]; rfl
  rintro H5 ⟨s5, g5⟩
  have g5 : H5 D = some (.lst ((wOn n).map V.int)) := by
    rw [Int.toNat_natCast, List.take_of_length_le (by rw [wOn_len]; omega)] at g5; exact g5
  refine ⟨D, _, rfl, .inl ⟨SqL.of g5, fun qo hqo => ?_⟩⟩
  refine ⟨_, rfl, lm, _, rfl, .inl ⟨SqL.of (up hqo (s5 _ _ g1)), fun qm hqm => ?_⟩⟩
  refine ⟨(by show 2 ≤ sizeLine; decide), fun r hr0 => ?_⟩
  exact q r qo qm _ (fun c o h => up hr0 (up hqm (up hqo (s5 _ _ (s1 c o (ne_of_none h hlm) h))))) upd_same (up hr0 (up hqm upd_same)) (by
    have e : wMs hd al = (rngL n).map fun x => Option.map (fun m : Nat => (m : Int)) (wM hd al x.toNat) := by unfold wMs natMs; rw [hn]
    rw [e]; exact up hr0 upd_same)
end
end Hs
set_option Elab.async false
set_option linter.all false
set_option maxRecDepth 100000
set_option maxHeartbeats 1000000
namespace Hs
open PySem L2
theorem list_lk {l : List Int} {n : Nat} (h : l.length = n) : l = (rngL n).map (lk l) := by
  subst h
  refine List.ext_getElem? fun i => ?_
  by_cases c : i < l.length
  · rw [List.getElem?_map, rngL_get c]
    exact lk_get (l := l) (x := (i : Int)) (by omega)
  · rw [List.getElem?_eq_none (by omega), List.getElem?_eq_none (by rw [List.length_map, rngL_len]; omega)]
theorem lkM_get {ms : List (Option Int)} {x m : Int} (h : lkM ms x = some m) : ms[x.toNat]? = some (some m) := lkM_some h
theorem iso_skin {on : List Int} {ms : List (Option Int)} {on' : List Int} {ms' : List (Option Int)} {π ρ : Int → Int} (S : SkinOk on ms) (hp : ∀ x, InR on.length x → InR on.length (π x) ∧ ρ (π x) = x) (hr : ∀ x, InR on.length x → InR on.length (ρ x) ∧ π (ρ x) = x)
    (lo : on'.length = on.length) (lm : ms'.length = on.length) (e1 : ∀ x, InR on.length x → lk on' (π x) = π (lk on x)) (e2 : ∀ x, InR on.length x → lkM ms' (π x) = (lkM ms x).map π) : SkinOk on' ms' ∧ Iso on ms on' ms' π ρ := by
  have val : ∀ y, InR on.length y → lk on' y = π (lk on (ρ y)) := fun y g => by
    have := e1 _ (hr y g).1
    rw [(hr y g).2] at this; exact this
  refine ⟨⟨by rw [lo]; exact S.pos, by rw [lo]; exact S.le, by rw [lo, lm], fun x hx => ?_, ?_, fun y h0 h1 => ?_, fun h m e => ?_⟩, lo, hp, hr, e1, e2⟩
  · rw [list_lk lo] at hx
    obtain ⟨y, hy, rfl⟩ := List.mem_map.mp hx
    have g := rngL_mem.mp hy
    rw [val y g, lo]
    exact (hp _ (S.lkR (hr y g).1)).1
  · rw [list_lk lo, List.nodup_iff_pairwise_ne, List.pairwise_map]
    refine List.Pairwise.imp_of_mem ?_ (rngL_lt on.length)
    intro a b ha hb lt e
    have ga := rngL_mem.mp ha
    have gb := rngL_mem.mp hb
    rw [val a ga, val b gb] at e
    have e3 := congrArg ρ e
    rw [(hp _ (S.lkR (hr a ga).1)).2, (hp _ (S.lkR (hr b gb).1)).2] at e3
    have e4 := congrArg π (S.lkI (hr a ga).1 (hr b gb).1 e3)
    rw [(hr a ga).2, (hr b gb).2] at e4
    omega
  · rw [lo] at h1
    have g : InR on.length y := ⟨h0, h1⟩
    have ga := S.ahR (hr y g).1
    have e := e1 _ ga
    rw [S.lkA (hr y g).1, (hr y g).2] at e
    have gp := (hp _ ga).1
    have := lk_get (l := on') (x := π (ahd on (ρ y))) (by rw [lo]; unfold InR at gp; omega)
    rw [e] at this
    exact List.mem_of_getElem? this
  · have hl : h < on.length := by
      have := (List.getElem?_eq_some_iff.mp e).1
      rw [lm] at this; exact this
    have g : InR on.length (h : Int) := by unfold InR; omega
    have e0 : lkM ms' (h : Int) = some m := by
      unfold lkM
      rw [Int.toNat_natCast, e]; rfl
    have e3 := e2 _ (hr _ g).1
    rw [(hr _ g).2, e0] at e3
    obtain ⟨k, ek, rfl⟩ := Option.map_eq_some_iff.mp e3.symm
    obtain ⟨k1, k2, k3⟩ := S.mate (hr _ g).1 ek
    have gm := (hp k k1).1
    have e4 := e2 k k1
    rw [k2] at e4
    have e4 : lkM ms' (π k) = some (π (ρ (h : Int))) := e4
    rw [(hr _ g).2] at e4
    have gm' := gm
    unfold InR at gm'
    refine ⟨gm'.1, by rw [lo]; exact gm'.2, fun z => k3 ?_, lkM_get e4⟩
    rw [← z, (hp k k1).2]
end Hs
set_option Elab.async false
set_option linter.all false
set_option maxRecDepth 100000
set_option maxHeartbeats 4000000
namespace Hs
open PySem L2
section
variable {P : Program} {w : World} {K : PySem.W.Frag} {mg : Str → Option Value} {base : Heap} {f : Addr} {fd : FuncData}  {tM : Tok}
theorem scRenum : FnScope ["bag", "skin", "many", "order", "half", "onward", "mates"] ["bag", "skin"] (defScope s__law_renumbered) := ⟨rfl, rfl, rfl, by decide +kernel, rfl, by decide +kernel, by decide +kernel⟩
def spRenum : Sp := fun vs H Q _ => ∃ (b sk po pm : Addr) (x y : Int) (on : List Int) (ms : List (Option Int)), vs = [.ref b, .ref sk] ∧ H b = some (.lst [.int x, .int y]) ∧ H sk = some (.tup [.ref po, .ref pm]) ∧ H po = some (.tup (on.map V.int)) ∧ H pm = some (.tup (ms.map mV)) ∧ SkinOk on ms ∧
  ∀ (H' : Hp) (r ro so sm lo : Addr) (x' y' : Int) (on' : List Int) (ms' : List (Option Int)) (π ρ : Int → Int), But b H H' → H' b = some (.lst [.int x', .int y']) → SkinOk on' ms' → Iso on ms on' ms' π ρ →
    H' r = some (.tup [.ref ro, .ref lo]) → H' ro = some (.tup [.ref so, .ref sm]) → H' so = some (.tup (on'.map V.int)) → H' sm = some (.tup (ms'.map mV)) → Q (.ref r) H'
theorem ok_renum (B : Bi mg) (FT : Fn P w K mg base "_law_take" ["bag", "many"] 1 spTake) (F : Fun K "_law_renumbered" "_law_renumbered" s__law_renumbered f fd) : FnOk P w K mg base CX0 2 f fd ["bag", "skin"] spRenum := by
  refine F.ok scRenum (fun vs H Q E h => ?_) (fun cdv A outer s H vs Q E hr h => ?_)
  · obtain ⟨b, sk, po, pm, x, y, on, ms, rfl, _⟩ := h; rfl
  obtain ⟨b, sk, po, pm, x, y, on, ms, rfl, hb, hs, ho, hm, S, q⟩ := h
  refine ⟨_, (pss_cons (ps_set (i := 2) scRenum.nd rfl (Or.inl rfl) (pe_callB call_len_seq rfl B.len_ bt_len (pa_cons (pe_ix ix_tup (pv 1) pe_int (fun _ _ => rfl)) pa_nil)))
   (pss_cons (ps_set (i := 3) scRenum.nd rfl (Or.inl rfl) (pe_lst pa_nil))
   (pss_cons (ps_for PassesOwn.never rfl (pi_range1 rfl B.range_ (pa_cons (pv 2) pa_nil)) (pg_name (i := 4) scRenum.nd rfl (Or.inl rfl))
   (pss_one (ps_expr (pe_bm PySem.F.plainAttrs_list PySem.F.slot_list_insert PySem.F.type_list_insert mt_insert (pv 3) (pa_cons (pe_callF FT hr (by decide) (pa_cons (pv 0) (pa_cons (pe_op op_add (pv 4) pe_int) pa_nil))) (pa_cons (pv 4) pa_nil))))))
   (pss_cons (ps_set (i := 5) scRenum.nd rfl (Or.inl rfl) (pe_op op_rep (pe_lst (pa_cons pe_int pa_nil)) (pv 2)))
   (pss_cons (ps_set (i := 6) scRenum.nd rfl (Or.inl rfl) (pe_op op_rep (pe_lst (pa_cons pe_non pa_nil)) (pv 2)))
   (pss_cons (ps_for PassesOwn.never rfl (pi_range1 rfl B.range_ (pa_cons (pv 2) pa_nil)) (pg_name (i := 4) scRenum.nd rfl (Or.inl rfl))
   (pss_cons (ps_asg (pe_ix ix_list (pv 3) (pe_ix ix_tup (pe_ix ix_tup (pv 1) pe_int (fun _ _ => rfl)) (pv 4) (fun _ _ => rfl)) (fun _ _ => rfl)) (pg_sub (pv 5) (pe_ix ix_list (pv 3) (pv 4) (fun _ _ => rfl)) set_list))
   (pss_one (ps_if (pt_cmpR op_notN (pe_ix ix_tup (pe_ix ix_tup (pv 1) pe_int (fun _ _ => rfl)) (pv 4) (fun _ _ => rfl)) pe_non (nomark _))
   (pss_one (ps_asg (pe_ix ix_list (pv 3) (pe_ix ix_tup (pe_ix ix_tup (pv 1) pe_int (fun _ _ => rfl)) (pv 4) (fun _ _ => rfl)) (fun _ _ => rfl)) (pg_sub (pv 6) (pe_ix ix_list (pv 3) (pv 4) (fun _ _ => rfl)) set_list)))
   pss_nil))))
   (pss_one (ps_ret (pe_tup (pa_cons (pe_tup (pa_cons (pe_callTy call_tuple_of rfl B.tuple_ bt_tuple (pa_cons (pv 5) pa_nil)) (pa_cons (pe_callTy call_tuple_of rfl B.tuple_ bt_tuple (pa_cons (pv 6) pa_nil)) pa_nil))) (pa_cons (pv 3) pa_nil))))))))))), ?_⟩
  have hbn : H b ≠ none := by rw [hb]; exact fun z => nomatch z
  have np : ∀ c o, H c = some (.tup o) → c ≠ b := fun c o e z => by rw [z, hb] at e; cases e
  have lon : (on.map V.int).length = on.length := List.length_map _
  have hle := S.le
  have hpo := S.pos
  refine ⟨_, rfl, sk, _, _, .ref po, rfl, rfl, SqT.of hs, at0 _ _, po, _, rfl, .inr (SqT.of ho), ?_⟩
  rw [lon]
  refine ⟨(by show 0 ≤ sizeLine; decide), fun od hod => ?_⟩
  have nod : od ≠ b := (ne_of_none hb hod).symm
  refine ⟨_, rfl, (on.length : Int), rfl, by omega, by omega, for_range (lo := 0) (n := (on.length : Int).toNat)
    (fun i σ H2 => ∃ (v4 : Option V) (o : List Int) (x' y' : Int), σ = [some (.ref b), some (.ref sk), some (.int (on.length : Int)), some (.ref od), v4, none, none] ∧ But b H H2 ∧ H2 b = some (.lst [.int x', .int y']) ∧ H2 od = some (.lst (o.map V.int)) ∧ Ord i o)
    ⟨none, [], x, y, rfl, (But.refl b H).new hod, by rw [upd_ne nod.symm]; exact hb, upd_same, Ord.nil⟩ ?_ ?_⟩
  · rintro i σ H2 hi ⟨v4, o, x', y', rfl, B2, hb2, ho2, O⟩
    rw [Int.zero_add]
    have ol := O.len
    refine ⟨_, rfl, .inl ⟨rfl, _, SqL.of ho2⟩, _, rfl, _, rfl, _, _, rfl, rfl, b, x', y', _, rfl, hb2, by omega, by omega, fun r2 H3 x2 y2 h20 h21 hb3 o3 => ?_⟩
    have ho3 : H3 od = some (.lst (o.map V.int)) := (o3 od nod).trans ho2
    refine ⟨_, rfl, od, _, r2, _, rfl, rfl, ho3, h20, by rw [List.length_map, ol]; omega, small1000 (by rw [List.length_map, ol]; omega), ?_⟩
    refine ⟨_, o.take r2.toNat ++ (i : Int) :: o.drop r2.toNat, x2, y2, rfl, (B2.one o3).put (.inr hod), ?_, ?_, O.put _⟩
    · rw [upd_ne nod.symm]; exact hb3
    · rw [upd_same, List.map_append, List.map_cons, List.map_take, List.map_drop]
  rintro σ H2 ⟨v4, o, x2, y2, rfl, B2, hb2, ho2, O⟩
  rw [Int.toNat_natCast] at O
  have ol := O.len
  refine ⟨(by show 1 ≤ sizeLine; decide), fun p1 hp1 => ?_⟩
  refine ⟨_, rfl, p1, (on.length : Int), _, rfl, rfl, upd_same, by omega, by omega, (by show 1 * (on.length : Int).toNat ≤ sizeLine; exact lt63 (by omega)), fun nd hnd => ?_⟩
  refine ⟨(by show 1 ≤ sizeLine; decide), fun p2 hp2 => ?_⟩
  refine ⟨_, rfl, p2, (on.length : Int), _, rfl, rfl, upd_same, by omega, by omega, (by show 1 * (on.length : Int).toNat ≤ sizeLine; exact lt63 (by omega)), fun nm hnm => ?_⟩
  generalize hZ : upd (upd (upd (upd H2 p1 _) nd _) p2 _) nm _ = H3
  have n1b : nd ≠ b := (ne_of_none (up hp1 hb2) hnd).symm
  have n1o : nd ≠ od := (ne_of_none (up hp1 ho2) hnd).symm
  have hb3' := up hp2 (up hnd (up hp1 hb2 (o := .lst [.int 0])) (o := .lst ((List.replicate ((on.length : Int)).toNat [V.int 0]).flatten))) (o := .lst [V.non])
  have n2b : nm ≠ b := (ne_of_none hb3' hnm).symm
  have ho3' := up hp2 (up hnd (up hp1 ho2 (o := .lst [.int 0])) (o := .lst ((List.replicate ((on.length : Int)).toNat [V.int 0]).flatten))) (o := .lst [V.non])
  have n2o : nm ≠ od := (ne_of_none ho3' hnm).symm
  have hd3' : upd (upd (upd H2 p1 (.lst [.int 0])) nd (.lst ((List.replicate ((on.length : Int)).toNat [V.int 0]).flatten))) p2 (.lst [V.non]) nd = some (.lst ((List.replicate ((on.length : Int)).toNat [V.int 0]).flatten)) := up hp2 upd_same
  have n2d : nm ≠ nd := (ne_of_none hd3' hnm).symm
  have hb3 : H3 b = some (.lst [.int x2, .int y2]) := by rw [← hZ]; exact up hnm hb3'
  have ho3 : H3 od = some (.lst (o.map V.int)) := by rw [← hZ]; exact up hnm ho3'
  have hd3 : H3 nd = some (.lst ((List.replicate on.length 0).map V.int)) := by
    rw [← hZ, up hnm hd3', rep_int, Int.toNat_natCast]
  have hm3 : H3 nm = some (.lst ((List.replicate on.length (none : Option Int)).map mV)) := by
    rw [← hZ, upd_same, Int.toNat_natCast]
    refine congrArg some (congrArg HO.lst ?_)
    have : ∀ m : Nat, (List.replicate m [V.non]).flatten = (List.replicate m (none : Option Int)).map mV := fun m => by
      induction m with
      | zero => rfl
      | succ m ih => rw [List.replicate_succ, List.replicate_succ, List.flatten_cons, ih]; rfl
    exact this _
  have B3 : But b H H3 := by rw [← hZ]; exact (((B2.new hp1).new hnd).new hp2).new hnm
  have fd' : H nd = none := ((B2.new hp1 (o := .lst [.int 0])).free hnd).resolve_left n1b
  have fm' : H nm = none := ((((B2.new hp1 (o := .lst [.int 0])).new hnd (o := .lst ((List.replicate ((on.length : Int)).toNat [V.int 0]).flatten))).new hp2 (o := .lst [V.non])).free hnm).resolve_left n2b
  have fo' : H od = none := hod
  clear hZ
  have oat : ∀ x, InR on.length x → atI (o.map V.int) x = some (.int (lk o x)) := fun x g => at_lk g.1 (by rw [ol]; exact g.2)
  have pin : ∀ x, InR on.length x → InR on.length (lk o x) := fun x g => by
    have := lk_get (l := o) (x := x) (by unfold InR at g; omega)
    have := (O.mem _).mp (List.mem_of_getElem? this)
    unfold InR; omega
  have pinj : ∀ x, InR on.length x → ahd o (lk o x) = x := fun x g => by
    have e := lk_get (l := o) (x := x) (by unfold InR at g; omega)
    have m := List.mem_of_getElem? e
    have e2 := ahd_get m
    obtain ⟨l1, e1⟩ := List.getElem?_eq_some_iff.mp e
    obtain ⟨l2, e3⟩ := List.getElem?_eq_some_iff.mp e2
    have := (List.getElem_inj (h₀ := l2) (h₁ := l1) O.nd).mp (e3.trans e1.symm)
    unfold ahd
    unfold InR at g
    omega
  have rin : ∀ y, InR on.length y → InR on.length (ahd o y) ∧ lk o (ahd o y) = y := fun y g => by
    have m : y ∈ o := (O.mem y).mpr ⟨g.1, by have := g.2; omega⟩
    have r := ahd_rng m
    rw [ol] at r
    refine ⟨r, ?_⟩
    have e := lk_get (l := o) (x := ahd o y) (by rw [ol]; omega)
    have e2 := ahd_get m
    have : (ahd o y).toNat = o.idxOf y := rfl
    rw [this, e2] at e
    exact (Option.some.inj e).symm
  refine ⟨_, rfl, (on.length : Int), rfl, by omega, by omega, for_range (lo := 0) (n := (on.length : Int).toNat)
    (fun i σ H' => ∃ (v4 : Option V) (L : List Int) (M : List (Option Int)), σ = [some (.ref b), some (.ref sk), some (.int (on.length : Int)), some (.ref od), v4, some (.ref nd), some (.ref nm)] ∧ (∀ c o, c ≠ nd → c ≠ nm → H3 c = some o → H' c = some o) ∧
      H' nd = some (.lst (L.map V.int)) ∧ H' nm = some (.lst (M.map mV)) ∧ L.length = on.length ∧ M.length = on.length ∧ (∀ x, InR i x → lk L (lk o x) = lk o (lk on x)) ∧ (∀ x, InR on.length x → lkM M (lk o x) = if x < (i : Int) then (lkM ms x).map (lk o) else none))
    ⟨_, _, _, rfl, fun _ _ _ _ h => h, hd3, hm3, by rw [List.length_replicate], by rw [List.length_replicate], fun x g => by unfold InR at g; omega, fun x g => by
      have gx : ¬ x < ((0 : Nat) : Int) := by have := g.1; omega
      rw [if_neg gx]
      unfold lkM
      cases e : (List.replicate on.length (none : Option Int))[(lk o x).toNat]? with
      | none => rfl
      | some z =>
        have := List.mem_of_getElem? e
        rw [List.mem_replicate] at this
        rw [this.2]; rfl⟩ ?_ ?_⟩
  · rintro i σ H' hi ⟨v4, L, M, rfl, s1, g1, g2, lL, lM, iL, iM⟩
    rw [Int.zero_add]
    have hi : i < on.length := by omega
    have gi : InR on.length (i : Int) := by unfold InR; omega
    have k : ∀ c o, H c = some (.tup o) → H' c = some (.tup o) := fun c o e => s1 c _ (ne_of_none e fd') (ne_of_none e fm') (B3 _ _ (np _ _ e) e)
    have eo := s1 _ _ n1o.symm n2o.symm ho3
    have gp := pin _ gi
    have gon := S.lkR gi
    refine ⟨_, rfl, _, rfl, sk, _, _, .ref po, rfl, rfl, SqT.of (k _ _ hs), at0 _ _, _, rfl, po, _, _, _, rfl, rfl, SqT.of (k _ _ ho), at_lk gi.1 gi.2, od, _, _, _, rfl, rfl, SqL.of eo, oat _ gon, ?_⟩
    refine ⟨_, rfl, _, rfl, _, rfl, od, _, _, _, rfl, rfl, SqL.of eo, oat _ gi, nd, _, _, _, rfl, rfl, g1, ix_inC (by rw [List.length_map, lL]) gp, ?_⟩
    rw [set_mapC]
    have g1' := upd_same (H := H') (a := nd) (o := .lst ((L.set (lk o (i : Int)).toNat (lk o (lk on (i : Int)))).map V.int))
    have s2 : ∀ c o', c ≠ nd → c ≠ nm → H3 c = some o' → upd H' nd (.lst ((L.set (lk o (i : Int)).toNat (lk o (lk on (i : Int)))).map V.int)) c = some o' := fun c o' c1 c2 h => by rw [upd_ne c1]; exact s1 c o' c1 c2 h
    have g2' : upd H' nd (.lst ((L.set (lk o (i : Int)).toNat (lk o (lk on (i : Int)))).map V.int)) nm = some (.lst (M.map mV)) := by rw [upd_ne n2d]; exact g2
    generalize upd H' nd (.lst ((L.set (lk o (i : Int)).toNat (lk o (lk on (i : Int)))).map V.int)) = H4 at g1' s2 g2' ⊢
    have k4 : ∀ c o, H c = some (.tup o) → H4 c = some (.tup o) := fun c o e => s2 c _ (ne_of_none e fd') (ne_of_none e fm') (B3 _ _ (np _ _ e) e)
    have eo4 := s2 _ _ n1o.symm n2o.symm ho3
    have gpn := gp
    unfold InR at gpn
    have same : ∀ x, InR on.length x → ((lk o x).toNat = (lk o (i : Int)).toNat ↔ x = (i : Int)) := fun x gx => by
      have gpx := pin _ gx
      unfold InR at gpx
      constructor
      · intro e
        have e : lk o x = lk o (i : Int) := by omega
        rw [← pinj x gx, e, pinj _ gi]
      · rintro rfl; rfl
    have iL' : ∀ x, InR (i + 1) x → lk (L.set (lk o (i : Int)).toNat (lk o (lk on (i : Int)))) (lk o x) = lk o (lk on x) := fun x gx => by
      have gx' : InR on.length x := by unfold InR at *; omega
      rw [lk_set (by rw [lL]; omega)]
      by_cases e : x = (i : Int)
      · rw [if_pos ((same x gx').mpr e), e]
      · rw [if_neg (fun z => e ((same x gx').mp z))]
        exact iL x (by unfold InR at *; omega)
    cases em : lkM ms (i : Int) with
    | none =>
      refine ⟨_, rfl, sk, _, _, .ref pm, rfl, rfl, SqT.of (k4 _ _ hs), at1 _ _ _, _, rfl, pm, _, _, _, rfl, rfl, SqT.of (k4 _ _ hm), at_lkM gi.1 (by rw [S.len]; exact gi.2), rfl, _, rfl, itN (by rw [em]; rfl) ?_⟩
      refine ⟨_, _, _, rfl, s2, g1', g2', by rw [List.length_set]; exact lL, lM, iL', fun x gx => ?_⟩
      rw [iM x gx]
      by_cases e : x = (i : Int)
      · subst e
        rw [if_neg (by omega), if_pos (by omega), em]; rfl
      · by_cases lt : x < (i : Int)
        · rw [if_pos lt, if_pos (by omega)]
        · rw [if_neg lt, if_neg (by omega)]
    | some m =>
      obtain ⟨gm, _, _⟩ := S.mate gi em
      refine ⟨_, rfl, sk, _, _, .ref pm, rfl, rfl, SqT.of (k4 _ _ hs), at1 _ _ _, _, rfl, pm, _, _, _, rfl, rfl, SqT.of (k4 _ _ hm), at_lkM gi.1 (by rw [S.len]; exact gi.2), rfl, _, rfl, itP (by rw [em]; rfl) ?_⟩
      refine ⟨_, rfl, _, rfl, sk, _, _, .ref pm, rfl, rfl, SqT.of (k4 _ _ hs), at1 _ _ _, _, rfl, pm, _, _, _, rfl, rfl, SqT.of (k4 _ _ hm), at_lkM gi.1 (by rw [S.len]; exact gi.2), od, _, m, _, rfl, by rw [em]; rfl, SqL.of eo4, oat _ gm, ?_⟩
      refine ⟨_, rfl, _, rfl, _, rfl, od, _, _, _, rfl, rfl, SqL.of eo4, oat _ gi, nm, _, _, _, rfl, rfl, g2', ix_inC (by rw [List.length_map, lM]) gp, ?_⟩
      have e0 : (M.map mV).set (lk o (i : Int)).toNat (V.int (lk o m)) = (M.set (lk o (i : Int)).toNat (some (lk o m))).map mV := set_mV M _ (some (lk o m))
      rw [e0]
      refine ⟨_, _, _, rfl, fun c o' c1 c2 h => by rw [upd_ne c2]; exact s2 c o' c1 c2 h, by rw [upd_ne n2d.symm]; exact g1', upd_same, by rw [List.length_set]; exact lL, by rw [List.length_set]; exact lM, iL', fun x gx => ?_⟩
      have ls : lkM (M.set (lk o (i : Int)).toNat (some (lk o m))) (lk o x) = if (lk o x).toNat = (lk o (i : Int)).toNat then some (lk o m) else lkM M (lk o x) := by
        unfold lkM
        by_cases c : (lk o x).toNat = (lk o (i : Int)).toNat
        · rw [if_pos c, c, List.getElem?_set_self (by rw [lM]; omega)]; rfl
        · rw [if_neg c, List.getElem?_set_ne (fun z => c z.symm)]
      rw [ls]
      by_cases e : x = (i : Int)
      · rw [if_pos ((same x gx).mpr e), if_pos (by omega), e, em]; rfl
      · rw [if_neg (fun z => e ((same x gx).mp z)), iM x gx]
        by_cases lt : x < (i : Int)
        · rw [if_pos lt, if_pos (by omega)]
        · rw [if_neg lt, if_neg (by omega)]
  rintro σ H' ⟨v4, L, M, rfl, s1, g1, g2, lL, lM, iL, iM⟩
  rw [Int.toNat_natCast] at iL iM
  have iM' : ∀ x, InR on.length x → lkM M (lk o x) = (lkM ms x).map (lk o) := fun x gx => by rw [iM x gx, if_pos (by unfold InR at gx; omega)]
  obtain ⟨T, I⟩ := iso_skin (π := lk o) (ρ := ahd o) S (fun x g => ⟨pin x g, pinj x g⟩) rin lL lM iL iM'
  have eo := s1 _ _ n1o.symm n2o.symm ho3
  have hbF := s1 _ _ n1b.symm n2b.symm hb3
  refine ⟨_, rfl, nd, _, rfl, .inl ⟨SqL.of g1, fun so hso => ?_⟩⟩
  refine ⟨_, rfl, nm, _, rfl, .inl ⟨SqL.of (up hso g2), fun sm hsm => ?_⟩⟩
  refine ⟨(by show 2 ≤ sizeLine; decide), fun ro hro => ?_⟩
  refine ⟨_, rfl, (by show 2 ≤ sizeLine; decide), fun r hr0 => ?_⟩
  have BF : But b H H' := fun c o' hc h => s1 c o' (ne_of_none h fd') (ne_of_none h fm') (B3 c o' hc h)
  exact q _ r ro so sm od _ _ _ _ _ _ ((((BF.new hso).new hsm).new hro).new hr0) (up hr0 (up hro (up hsm (up hso hbF)))) T I upd_same (up hr0 upd_same) (up hr0 (up hro (up hsm upd_same))) (up hr0 (up hro upd_same))
end
end Hs
set_option Elab.async false
set_option linter.all false
set_option maxRecDepth 100000
set_option maxHeartbeats 4000000
namespace Hs
open PySem L2
section
variable {P : Program} {w : World} {K : PySem.W.Frag} {mg : Str → Option Value} {base : Heap} {f : Addr} {fd : FuncData}  {tM : Tok}
theorem Tabs.but {T : TabL} {H H' : Hp} {b : Addr} {xs : List V} (h : Tabs T H) (bt : But b H H') (hb : H b = some (.lst xs)) : Tabs T H' := fun t m => by
  obtain ⟨ps, h1, h2, h3⟩ := h t m
  refine ⟨ps, bt _ _ (fun z => by rw [z, hb] at h1; cases h1) h1, h2, ?_⟩
  rcases h3 with h3 | ⟨c, h3, oc, vs, t, k1, k2, k3⟩
  · exact .inl h3
  · exact .inr ⟨c, h3, oc, vs, t, bt _ _ (fun z => by rw [z, hb] at k1; cases k1) k1, k2, k3⟩
theorem dp_refs {K : PySem.W.Frag} {H : Hp} : ∀ (rs : List Addr) (rows : List (List Int)), rs.length = rows.length → (∀ (j : Nat) (a : Addr) (row : List Int), rs[j]? = some a → rows[j]? = some row → H a = some (.tup (row.map V.int))) → DpAll K H (rs.map V.ref) (rows.map fun row => .tuple (row.map PyData.int))
  | [], [], _, _ => .nil
  | a :: rs, row :: rows, hl, h => .cons (.tup (SqT.of (h 0 a row rfl rfl)) (dpA_ints row)) (dp_refs rs rows (by simpa using hl) fun j b q h1 h2 => h (j + 1) b q h1 h2)
  | [], _ :: _, hl, _ => by cases hl
  | _ :: _, [], hl, _ => by cases hl
def netRow (w h way : Nat) : List Int := if way = 0 then [((w : Int) + 1) * (h + 1), 2 * ((w : Int) * h) + w + h, (w : Int) * h, 1, 0] else if way = 1 then [(w : Int) * (h + 1), 2 * ((w : Int) * h) + w, (w : Int) * h, 2, 0] else [(w : Int) * h, 2 * ((w : Int) * h), (w : Int) * h, 0, 1]
theorem netRow_len (w h way : Nat) : (netRow w h way).length = 5 := by unfold netRow; split; rfl; split <;> rfl
theorem net_all {w h way : Nat} (hw : 1 ≤ w ∧ w ≤ 9) (hh : 1 ≤ h ∧ h ≤ 9) (hy : way < 3) : NetOk w h way := okNet_of (by
  have := all_net (w - 1) (by omega) (h - 1) (by omega) way hy
  rw [show w - 1 + 1 = w by omega, show h - 1 + 1 = h by omega] at this; exact this)
theorem all_rowL (on : List Int) (ms : List (Option Int)) : allC on ms = (partsL on ms).map (rowL on ms) := rfl
theorem tot_one {row : List Int} (h : row.length = 5) : totL [row] = row ++ [1] := by
  match row, h with
  | [a, b, c, d, e], _ =>
    show [a + 0, b + 0, c + 0, d + 0, e + 0, 1] = _
    simp
theorem gd_one {row : List Int} (h : row.length = 5) : Gd 2 (.tuple [.tuple (row.map PyData.int)]) := Gd.tup (k := 1) (gdA_cons (gd_ints 0 (by omega)) (gdA_nil 1)) (by show 1 ≤ 401 + 1; omega)
theorem Loose.seq {K : PySem.W.Frag} {H H' : Hp} {a : Addr} {xs : List V} (e : Loose H H') (h : SqL K H a xs) : SqL K H' a xs := by
  rcases h with (h | ⟨o, h⟩) | h
  · exact .inl (.inl (e _ _ h (fun _ z => nomatch z)))
  · exact .inl (.inr ⟨o, e _ _ h (fun _ z => nomatch z)⟩)
  · exact .inr h
def spLaw (K : PySem.W.Frag) (T : TabL) : Sp := fun vs H Q _ => ∃ (a : Addr) (ns : List Int), vs = [.ref a] ∧ SqL K H a (ns.map V.int) ∧ ns.length ≤ 63 ∧ Tabs T H ∧ ∀ H', Q (.bl true) H'
structure BiQ (mg : Str → Option Value) : Prop extends Bi mg where
  sorted_ : mg "sorted" = none
  zip_ : mg "zip" = none
  sum_ : mg "sum" = none
theorem scLaw : FnScope ["script", "k", "bag", "wide", "high", "cells", "due", "way", "handles", "alone", "skin"] ["script"] (defScope sLaw) := ⟨rfl, rfl, rfl, by decide +kernel, rfl, by decide +kernel, by decide +kernel⟩
theorem ok_law {T : TabL} (B : BiQ mg) (FT : Fn P w K mg base "_law_take" ["bag", "many"] 1 spTake) (FG : Fn P w K mg base "_law_bag" ["script", "k"] 1 (spBag K))
    (FNt : Fn P w K mg base "_law_net" ["wide", "high", "round_wide", "round_high"] 1 spNet) (FWd : Fn P w K mg base "_law_word_skin" ["handles", "alone"] 1 spWord) (FRn : Fn P w K mg base "_law_renumbered" ["bag", "skin"] 2 spRenum) (FCo : Fn P w K mg base "counts" ["skin"] 8 (spCounts T)) (FTo : Fn P w K mg base "totals" ["skin"] 9 (spTotals T))
    (F : Fun K "law" "law" sLaw f fd) : FnOk P w K mg base CX0 10 f fd ["script"] (spLaw K T) := by
  refine F.ok scLaw (fun vs H Q E h => ?_) (fun cdv A outer s H vs Q E hr h => ?_)
  · obtain ⟨a, ns, rfl, _⟩ := h; rfl
  obtain ⟨a, ns, rfl, hS, h63, TS0, q⟩ := h
  refine ⟨_, (pss_cons (ps_for PassesOwn.never rfl (pi_range1 rfl B.range_ (pa_cons (pe_op op_add pe_int (pe_callB (call_min2 rfl) rfl B.min_ bt_min (pa_cons (pe_callB call_len_seq rfl B.len_ bt_len (pa_cons (pv 0) pa_nil)) (pa_cons pe_int pa_nil)))) pa_nil)) (pg_name (i := 1) scLaw.nd rfl (Or.inl rfl))
   (pss_cons (ps_set (i := 2) scLaw.nd rfl (Or.inl rfl) (pe_callF FG hr (by decide) (pa_cons (pv 0) (pa_cons (pv 1) pa_nil))))
   (pss_cons (ps_set (i := 3) scLaw.nd rfl (Or.inl rfl) (pe_op op_add pe_int (pe_callF FT hr (by decide) (pa_cons (pv 2) (pa_cons pe_int pa_nil)))))
   (pss_cons (ps_set (i := 4) scLaw.nd rfl (Or.inl rfl) (pe_op op_add pe_int (pe_callF FT hr (by decide) (pa_cons (pv 2) (pa_cons pe_int pa_nil)))))
   (pss_cons (ps_set (i := 5) scLaw.nd rfl (Or.inl rfl) (pe_op op_mul (pv 3) (pv 4)))
   (pss_cons (ps_set (i := 6) scLaw.nd rfl (Or.inl rfl) (pe_lst (pa_cons (pe_tup (pa_cons (pe_op op_mul (pe_op op_add (pv 3) pe_int) (pe_op op_add (pv 4) pe_int)) (pa_cons (pe_op op_add (pe_op op_add (pe_op op_mul pe_int (pv 5)) (pv 3)) (pv 4)) (pa_cons (pv 5) (pa_cons pe_int (pa_cons pe_int pa_nil)))))) pa_nil)))
   (pss_cons (ps_set (i := 6) scLaw.nd rfl (Or.inl rfl) (pe_op op_cat (pv 6) (pe_lst (pa_cons (pe_tup (pa_cons (pe_op op_mul (pv 3) (pe_op op_add (pv 4) pe_int)) (pa_cons (pe_op op_add (pe_op op_mul pe_int (pv 5)) (pv 3)) (pa_cons (pv 5) (pa_cons pe_int (pa_cons pe_int pa_nil)))))) (pa_cons (pe_tup (pa_cons (pv 5) (pa_cons (pe_op op_mul pe_int (pv 5)) (pa_cons (pv 5) (pa_cons pe_int (pa_cons pe_int pa_nil)))))) pa_nil)))))
   (pss_cons (ps_for PassesOwn.never rfl (pi_range1 rfl B.range_ (pa_cons pe_int pa_nil)) (pg_name (i := 7) scLaw.nd rfl (Or.inl rfl))
   (pss_cons (ps_set (i := 10) scLaw.nd rfl (Or.inl rfl) (pe_ix ix_tup (pe_callF FRn hr (by decide) (pa_cons (pv 2) (pa_cons (pe_callF FNt hr (by decide) (pa_cons (pv 3) (pa_cons (pv 4) (pa_cons (pe_cmpR op_gt (pv 7) pe_int (nomark _)) (pa_cons (pe_cmpR op_gt (pv 7) pe_int (nomark _)) pa_nil))))) pa_nil))) pe_int (fun _ _ => rfl)))
   (pss_one (ps_if (PW.pt (pw_or (pt_cmpR (op_neD hr.units) (pe_callF FCo hr (by decide) (pa_cons (pv 10) pa_nil)) (pe_tup (pa_cons (pe_ix ix_list (pv 6) (pv 7) (fun _ _ => rfl)) pa_nil)) (nomark _)) (pw_or1 (pt_cmpR (op_neD hr.units) (pe_callF FTo hr (by decide) (pa_cons (pv 10) pa_nil)) (pe_op op_catW (pe_ix ix_list (pv 6) (pv 7) (fun _ _ => rfl)) (pe_tup (pa_cons pe_int pa_nil))) (nomark _)))))
   (pss_one (ps_ret pe_bl))
   pss_nil))))
   (pss_cons (ps_set (i := 8) scLaw.nd rfl (Or.inl rfl) (pe_callF FT hr (by decide) (pa_cons (pv 2) (pa_cons pe_int pa_nil))))
   (pss_cons (ps_set (i := 9) scLaw.nd rfl (Or.inl rfl) (pe_op op_add (pe_callF FT hr (by decide) (pa_cons (pv 2) (pa_cons pe_int pa_nil))) (pe_callTy call_int1 rfl B.int_ bt_int (pa_cons (pe_cmpR op_eq (pv 8) pe_int (nomark _)) pa_nil))))
   (pss_cons (ps_set (i := 10) scLaw.nd rfl (Or.inl rfl) (pe_ix ix_tup (pe_callF FRn hr (by decide) (pa_cons (pv 2) (pa_cons (pe_callF FWd hr (by decide) (pa_cons (pv 8) (pa_cons (pv 9) pa_nil))) pa_nil))) pe_int (fun _ _ => rfl)))
   (pss_one (ps_if (pt_cmpR (op_neD hr.units) (pe_callF FCo hr (by decide) (pa_cons (pv 10) pa_nil)) (pe_tup (pa_cons (pe_tup (pa_cons (pe_op op_add pe_int (pv 9)) (pa_cons (pe_op op_add (pe_op op_mul pe_int (pv 8)) (pe_op op_mul pe_int (pv 9))) (pa_cons pe_int (pa_cons (pv 9) (pa_cons (pv 8) pa_nil)))))) pa_nil)) (nomark _))
   (pss_one (ps_ret pe_bl))
   pss_nil)))))))))))))
   (pss_one (ps_ret pe_bl))), ?_⟩
  have hln : (ns.map V.int).length = ns.length := List.length_map _
  refine ⟨_, rfl, a, _, rfl, .inl hS, _, _, rfl, _, _, rfl, rfl, ?_⟩
  refine ⟨_, rfl, by rw [hln]; split <;> omega, by rw [hln]; split <;> omega, for_range (lo := 0)
    (fun i σ H1 => ∃ v1 v2 v3 v4 v5 v6 v7 v8 v9 v10 : Option V, σ = [some (.ref a), v1, v2, v3, v4, v5, v6, v7, v8, v9, v10] ∧ Loose H H1 ∧ Tabs T H1)
    ⟨none, none, none, none, none, none, none, none, none, none, rfl, Loose.refl _, TS0⟩ ?_ (fun _ _ _ => q _)⟩
  rintro i σ H1 _ ⟨v1, v2, v3, v4, v5, v6, v7, v8, v9, v10, rfl, s1, TS1⟩
  rw [Int.zero_add]
  refine ⟨_, rfl, _, rfl, a, ns, (i : Int), rfl, s1.seq hS, h63, by omega, fun b x y hb0 => ?_⟩
  have fb : H1 b = none := hb0
  have s2 := same_new hb0 (.lst [.int x, .int y])
  have nb : ∀ c u, H1 c = some u → c ≠ b := fun c u hu => ne_of_none hu fb
  have hb2 : upd H1 b (.lst [.int x, .int y]) b = some (.lst [.int x, .int y]) := upd_same
  generalize upd H1 b (.lst [.int x, .int y]) = H2 at s2 hb2 ⊢
  refine ⟨_, rfl, b, x, y, 9, rfl, hb2, by decide, by decide, fun r3 H3 x3 y3 r30 r31 hb3 o3 => ⟨_, _, rfl, rfl, ?_⟩⟩
  obtain ⟨wd, hwd⟩ : ∃ n : Nat, (1 : Int) + r3 = (n : Int) := ⟨(1 + r3).toNat, by omega⟩
  change gName _ (V.int (1 + r3)) _ _ _
  rw [hwd]
  refine ⟨_, rfl, b, x3, y3, 9, rfl, hb3, by decide, by decide, fun r4 H4 x4 y4 r40 r41 hb4 o4 => ⟨_, _, rfl, rfl, ?_⟩⟩
  obtain ⟨hg, hhg⟩ : ∃ n : Nat, (1 : Int) + r4 = (n : Int) := ⟨(1 + r4).toNat, by omega⟩
  change gName _ (V.int (1 + r4)) _ _ _
  rw [hhg]
  have hw : 1 ≤ wd ∧ wd ≤ 9 := by omega
  have hh : 1 ≤ hg ∧ hg ≤ 9 := by omega
  have B4 : But b H2 H4 := ((But.refl b H2).one o3).one o4
  have S4 : Same H1 H4 := fun c u hu => B4 c u (nb c u hu) (s2 c u hu)
  have CW : ∀ z : Int, CMul (2 : Int) z := fun z => .inl (by decide)
  refine ⟨_, rfl, _, rfl, _, _, rfl, rfl, .inl (by omega), ?_⟩
  refine ⟨_, rfl, _, _, rfl, rfl, _, rfl, _, _, rfl, rfl, _, _, rfl, rfl, .inl (by omega), _, rfl, _, _, rfl, rfl, CW _, _, rfl, _, _, rfl, rfl, _, rfl, _, _, rfl, rfl, _, rfl, ?_⟩
  refine ⟨(by show 5 ≤ sizeLine; decide), fun d0 h0 => ⟨(by show 1 ≤ sizeLine; decide), fun l0 hl0 => ?_⟩⟩
  refine ⟨_, rfl, _, rfl, _, rfl, _, _, rfl, rfl, _, _, rfl, rfl, .inl (by omega), _, rfl, _, _, rfl, rfl, CW _, _, rfl, _, _, rfl, rfl, _, rfl, ?_⟩
  refine ⟨(by show 5 ≤ sizeLine; decide), fun d1 h1 => ?_⟩
  refine ⟨_, rfl, _, rfl, _, _, rfl, rfl, CW _, _, rfl, ?_⟩
  refine ⟨(by show 5 ≤ sizeLine; decide), fun d2 h2 => ⟨(by show 2 ≤ sizeLine; decide), fun l1 hl1 => ?_⟩⟩
  refine ⟨l0, l1, _, _, rfl, rfl, up hl1 (up h2 (up h1 upd_same)), upd_same, (by show 1 + 2 ≤ sizeLine; decide), fun ld hld => ?_⟩
  generalize hZ : upd (upd (upd (upd (upd (upd H4 d0 _) l0 _) d1 _) d2 _) l1 _) ld _ = H5
  have e5 : H5 ld = some (.lst [V.ref d0, V.ref d1, V.ref d2]) := by rw [← hZ]; exact upd_same
  have eR0 : H5 d0 = some (.tup ((netRow wd hg 0).map V.int)) := by rw [← hZ]; exact up hld (up hl1 (up h2 (up h1 (up hl0 upd_same))))
  have eR1 : H5 d1 = some (.tup ((netRow wd hg 1).map V.int)) := by rw [← hZ]; exact up hld (up hl1 (up h2 upd_same))
  have eR2 : H5 d2 = some (.tup ((netRow wd hg 2).map V.int)) := by rw [← hZ]; exact up hld (up hl1 upd_same)
  have s45 : Same H4 H5 := fun c u hu => by rw [← hZ]; exact up hld (up hl1 (up h2 (up h1 (up hl0 (up h0 hu)))))
  clear hZ
  have hb5 := s45 _ _ hb4
  have S15 := S4.trans s45
  have TS5 := TS1.same S15
  refine ⟨_, rfl, by decide, by decide, for_range (lo := 0)
    (fun j σ H' => ∃ (o7 o10 : Option V) (x y : Int), σ = [some (.ref a), some (.int (i : Int)), some (.ref b), some (.int (wd : Int)), some (.int (hg : Int)), some (.int ((wd : Int) * (hg : Int))), some (.ref ld), o7, v8, v9, o10] ∧ (∀ c o, c ≠ b → H5 c = some o → (∀ ps, o ≠ .tbl ps) → H' c = some o) ∧ Tabs T H' ∧ H' b = some (.lst [.int x, .int y]))
    ⟨_, _, _, _, rfl, fun _ _ _ h _ => h, TS5, hb5⟩ ?_ ?_⟩
  · rintro j σ H6 hj ⟨o7, o10, x6, y6, rfl, k6, TS6, hb6⟩
    have hj : j < 3 := hj
    rw [Int.zero_add]
    have N := net_all hw hh hj
    have bE : ∀ n : Nat, decide ((n : Int) < (j : Int)) = decide (n < j) := fun n => decide_eq_decide.mpr (by omega)
    refine ⟨_, rfl, _, rfl, _, rfl, _, rfl, _, _, rfl, rfl, _, rfl, _, _, rfl, rfl, wd, hg, j, ?_, hw.1, hw.2, hh.1, hh.2, fun r po pm H7 s7 e1 e2 e3 => ?_⟩
    · show [V.int (wd : Int), V.int (hg : Int), V.bl (decide ((0 : Int) < (j : Int))), V.bl (decide ((1 : Int) < (j : Int)))] = _
      rw [show decide ((0 : Int) < (j : Int)) = decide (0 < j) from bE 0, show decide ((1 : Int) < (j : Int)) = decide (1 < j) from bE 1]
    have Sn := net_skin N hw hh
    refine ⟨b, r, po, pm, x6, y6, _, _, rfl, s7 _ _ hb6, e1, e2, e3, Sn, fun H8 r8 ro so sm lo x8 y8 on' ms' π ρ B8 hb8 S' I f1 f2 f3 f4 => ?_⟩
    refine ⟨r8, _, _, _, rfl, rfl, SqT.of f1, at0 _ _, ?_⟩
    have SA8 : SkAt H8 ro on' ms' := ⟨S', so, sm, f2, f3, f4⟩
    have TS8 : Tabs T H8 := (TS6.same s7).but B8 (s7 _ _ hb6)
    have k8 : ∀ c o, c ≠ b → H5 c = some o → (∀ ps, o ≠ .tbl ps) → H8 c = some o := fun c o hc h nt => B8 c o hc (s7 _ _ (k6 c o hc h nt))
    have row : allC on' ms' = [netRow wd hg j] := by
      rw [all_rowL, I.allC Sn S' (net_con N hw hh)]
      exact net_row N hw hh hj
    refine ⟨_, rfl, ro, on', ms', rfl, SA8, TS8, fun rc H9 l9 TS9 R9 => ?_⟩
    rw [row] at R9
    obtain ⟨rs, c1, c2, c3⟩ := id R9
    obtain ⟨dj, edj, hdj⟩ : ∃ dj, atI [V.ref d0, V.ref d1, V.ref d2] (j : Int) = some (.ref dj) ∧ H5 dj = some (.tup ((netRow wd hg j).map V.int)) := by
      match j, hj with
      | 0, _ => exact ⟨d0, atI_nat (j := 0) rfl, eR0⟩
      | 1, _ => exact ⟨d1, atI_nat (j := 1) rfl, eR1⟩
      | 2, _ => exact ⟨d2, atI_nat (j := 2) rfl, eR2⟩
    have nld : ld ≠ b := fun z => by rw [z, hb5] at e5; simp at e5
    have ndj : dj ≠ b := fun z => by rw [z, hb5] at hdj; cases hdj
    have el9 := l9 _ _ (k8 _ _ nld e5 nofun) nofun
    have ed9 := l9 _ _ (k8 _ _ ndj hdj nofun) nofun
    have lr := netRow_len wd hg j
    have g1 := gd_one lr
    refine ⟨_, rfl, _, rfl, ld, _, _, _, rfl, rfl, SqL.of el9, edj, (by show 1 ≤ sizeLine; decide), fun t1 ht1 => ?_⟩
    refine ⟨_, _, .tup (SqT.of (up ht1 c1)) (dp_refs rs _ c2 fun k a row z1 z2 => up ht1 (c3 k a row z1 z2)), .tup (SqT.of upd_same) (.cons (.tup (SqT.of (up ht1 ed9)) (dpA_ints _)) .nil), g1.shaped (by decide), g1.shaped (by decide), _, rfl, ?_⟩
    rw [show ([netRow wd hg j].map fun row => PyData.tuple (row.map PyData.int)) = [PyData.tuple ((netRow wd hg j).map PyData.int)] from rfl, g1.eqv]
    refine itN (by decide) ?_
    have sT := same_put ht1 (.tup [V.ref dj])
    generalize upd H9 t1 (.tup [V.ref dj]) = HA at sT ⊢
    have SAA : SkAt HA ro on' ms' := (SA8.loose l9).same sT
    refine ⟨_, rfl, ro, on', ms', rfl, SAA, TS9.same sT, fun rt HB lB TSB eB => ?_⟩
    have etot : totC on' ms' = netRow wd hg j ++ [1] := by unfold totC; rw [row, tot_one lr]
    rw [etot] at eB
    have elB := lB _ _ (sT _ _ el9) nofun
    have edB := lB _ _ (sT _ _ ed9) nofun
    refine ⟨_, rfl, _, rfl, ld, _, _, _, rfl, rfl, SqL.of elB, edj, (by show 1 ≤ sizeLine; decide), fun t2 ht2 => ?_⟩
    refine ⟨dj, t2, _, _, rfl, rfl, SqT.of (up ht2 edB), SqT.of upd_same, by rw [List.length_map, lr, sizeLine_eq]; decide, fun p2 HC sC gC => ?_⟩
    have gC : SqT K HC p2 ((netRow wd hg j ++ [1]).map V.int) := by rw [List.map_append]; exact gC
    have g2 : Gd 1 (.tuple ((netRow wd hg j ++ [1]).map PyData.int)) := gd_ints 0 (by rw [List.length_append, lr]; decide)
    refine ⟨_, _, .tup (SqT.of (sC _ _ (up ht2 eB))) (dpA_ints _), .tup gC (dpA_ints _), g2.shaped (by decide), g2.shaped (by decide), _, rfl, ?_⟩
    rw [g2.eqv]
    refine itN (by decide) ?_
    have lF : Loose H8 HC := l9.trans (sT.loose.trans (lB.trans ((same_put ht2 (.tup [V.int 1])).loose.trans sC.loose)))
    exact ⟨_, _, _, _, rfl, fun c o hc h nt => lF c o (k8 c o hc h nt) nt, (TSB.same (same_put ht2 (.tup [V.int 1]))).same sC, lF _ _ hb8 nofun⟩
  rintro σ H6 ⟨o7, o10, x6, y6, rfl, k6, TS6, hb6⟩
  have nbb : ∀ c u, H1 c = some u → (∀ ps, u ≠ .tbl ps) → H6 c = some u := fun c u hu nt => k6 c u (nb c u hu) (S15 c u hu) nt
  refine ⟨_, rfl, b, x6, y6, 20, rfl, hb6, by decide, by decide, fun rh H7 x7 y7 p7 q7 hb7 o7' => ?_⟩
  refine ⟨_, rfl, b, x7, y7, 20, rfl, hb7, by decide, by decide, fun ra H8 x8 y8 p8 q8 hb8 o8 => ?_⟩
  refine ⟨_, rfl, rfl, .inr ⟨_, rfl, _, _, rfl, rfl, ?_⟩⟩
  obtain ⟨hd, rfl⟩ := Int.eq_ofNat_of_zero_le p7
  obtain ⟨al, hal⟩ : ∃ n : Nat, ra + (if decide (V.int (hd : Int) = V.int 0) = true then 1 else 0) = (n : Int) := ⟨(ra + (if decide (V.int (hd : Int) = V.int 0) = true then 1 else 0)).toNat, by split <;> omega⟩
  have hpos : 0 < hd ∨ 0 < al := by
    by_cases z : hd = 0
    · right
      subst z
      rw [if_pos (by simp)] at hal
      omega
    · exact .inl (by omega)
  have hal21 : al < 21 := by
    have : (if decide (V.int (hd : Int) = V.int 0) = true then (1 : Int) else 0) ≤ 1 := by split <;> omega
    omega
  change gName _ (V.int (ra + (if decide (V.int (hd : Int) = V.int 0) = true then 1 else 0))) _ _ _
  rw [hal]
  have h20 : hd < 20 := by omega
  have W := okWord_of (all_word hd h20 al hal21 hpos)
  have Sw := word_skin W h20 hal21 hpos
  refine ⟨_, rfl, _, rfl, _, rfl, hd, al, rfl, h20, hal21, hpos, fun r po pm H9 s9 e1 e2 e3 => ?_⟩
  refine ⟨b, r, po, pm, x8, y8, _, _, rfl, s9 _ _ hb8, e1, e2, e3, Sw, fun HA rA ro so sm lo xA yA on' ms' π ρ BA hbA S' I f1 f2 f3 f4 => ?_⟩
  refine ⟨rA, _, _, _, rfl, rfl, SqT.of f1, at0 _ _, ?_⟩
  have SAA : SkAt HA ro on' ms' := ⟨S', so, sm, f2, f3, f4⟩
  have B68 : But b H6 H8 := ((But.refl b H6).one o7').one o8
  have TSA : Tabs T HA := (((TS6.but B68 hb6).same s9).but BA (s9 _ _ hb8))
  have kA : ∀ c u, H1 c = some u → (∀ ps, u ≠ .tbl ps) → HA c = some u := fun c u hu nt => BA c u (nb c u hu) (s9 _ _ (B68 c u (nb c u hu) (nbb c u hu nt)))
  have row : allC on' ms' = [[1 + (al : Int), 2 * (hd : Int) + 2 * al, 1, (al : Int), (hd : Int)]] := by
    rw [all_rowL, I.allC Sw S' (word_con W h20 hal21 hpos)]
    exact word_row W h20 hal21 hpos
  refine ⟨_, rfl, ro, on', ms', rfl, SAA, TSA, fun rc HB lB TSB RB => ?_⟩
  rw [row] at RB
  obtain ⟨rs, c1, c2, c3⟩ := id RB
  refine ⟨_, rfl, _, _, rfl, rfl, _, rfl, _, _, rfl, rfl, CW _, _, rfl, _, _, rfl, rfl, CW _, _, _, rfl, rfl, _, rfl, _, rfl, ?_⟩
  refine ⟨(by show 5 ≤ sizeLine; decide), fun t1 ht1 => ⟨(by show 1 ≤ sizeLine; decide), fun t2 ht2 => ?_⟩⟩
  have lr : ([1 + (al : Int), 2 * (hd : Int) + 2 * al, 1, (al : Int), (hd : Int)]).length = 5 := rfl
  have g1 := gd_one lr
  have eT := up ht2 (upd_same (H := HB) (a := t1) (o := .tup ([1 + (al : Int), 2 * (hd : Int) + 2 * al, 1, (al : Int), (hd : Int)].map V.int))) (o := .tup [V.ref t1])
  have sT := (same_put ht1 (.tup ([1 + (al : Int), 2 * (hd : Int) + 2 * al, 1, (al : Int), (hd : Int)].map V.int))).trans (same_put ht2 (.tup [V.ref t1]))
  refine ⟨_, _, .tup (SqT.of (sT _ _ c1)) (dp_refs rs _ c2 fun k a row z1 z2 => sT _ _ (c3 k a row z1 z2)), .tup (SqT.of upd_same) (.cons (.tup (SqT.of eT) (dpA_ints _)) .nil), g1.shaped (by decide), g1.shaped (by decide), _, rfl, ?_⟩
  rw [show ([[1 + (al : Int), 2 * (hd : Int) + 2 * al, 1, (al : Int), (hd : Int)]].map fun row => PyData.tuple (row.map PyData.int)) = [PyData.tuple ([1 + (al : Int), 2 * (hd : Int) + 2 * al, 1, (al : Int), (hd : Int)].map PyData.int)] from rfl, g1.eqv]
  refine itN (by decide) ?_
  exact ⟨_, _, _, _, _, _, _, _, _, _, rfl, fun c u hu nt => sT _ _ (lB _ _ (kA c u (s1 c u hu nt) nt) nt), TSB.same sT⟩
end
end Hs
set_option Elab.async false
set_option linter.all false
set_option maxRecDepth 100000
set_option maxHeartbeats 600000
namespace Hs
open PySem L2
theorem fn_of {P : Program} {w : World} {K : PySem.W.Frag} {mg : Str → Option Value} {base : Heap} {x : Str} {st : Stmt} {f : Addr} {fd : FuncData} {ps : List Str} {k : Nat} {sp : Sp} (F : Fun K x x st f fd) (G : FnOk P w K mg base CX0 k f fd ps sp) (b : Binds K fd ps []) (m : mg x = some (.ref f)) :
    Fn P w K mg base x ps k sp := ⟨f, fd, G, b, F.kp, m⟩
theorem fnx_of {P : Program} {w : World} {K : PySem.W.Frag} {mg : Str → Option Value} {base : Heap} {x : Str} {st : Stmt} {f : Addr} {fd : FuncData} {ps : List Str} {k : Nat} {sp : Sp} (F : Fun K x x st f fd) (G : FnOk P w K mg base (CXf P w) k f fd ps sp) (b : Binds K fd ps []) (m : mg x = some (.ref f)) :
    FnX P w K mg base x ps k sp := ⟨f, fd, G, b, F.kp, m⟩
theorem all_mk {l : PySem.W.OpenLaw} {w : World} {K : PySem.W.Frag} {h : Heap} {mg : Str → Option Value} {fa f1 f2 f3 f4 f5 f6 f7 f8 f9 f10 f11 f12 f13 f14 f15 f16 f17 f18 f19 f20 f21 f22 f23 f24 : Addr} {cc5 P5 cc14 P14 cc7 P7 cc8 P8 : Addr} (X : K.In h) (G : h.Ns mainGlobals mg) (hfa : mg "law" = some (.ref fa))
    {od1 an1 od2 an2 od3 an3 od4 an4 od5 an5 od6 an6 od7 an7 od8 an8 od9 an9 od10 an10 od11 an11 od12 an12 od13 an13 od14 an14 od15 an15 od16 an16 od17 an17 od18 an18 od19 an19 od20 an20 od21 an21 od22 an22 od23 an23 od24 an24 : Option Addr} {sl1 sl2 sl3 sl4 sl5 sl6 sl7 sl8 sl9 sl10 sl11 sl12 sl13 sl14 sl15 sl16 sl17 sl18 sl19 sl20 sl21 sl22 sl23 sl24 : Array (Option Value)} {oc1 kV1 dc1 pm1 ct1 cd1 oc2 kV2 dc2 pm2 ct2 cd2 oc3 kV3 dc3 pm3 ct3 cd3 oc4 kV4 dc4 pm4 ct4 cd4 oc5 kV5 dc5 pm5 ct5 oc6 kV6 dc6 pm6 ct6 cd6 oc7 kV7 dc7 pm7 ct7 oc8 kV8 dc8 pm8 ct8 oc9 kV9 dc9 pm9 ct9 cd9 oc10 kV10 dc10 pm10 ct10 cd10 oc11 kV11 dc11 pm11 ct11 cd11 oc12 kV12 dc12 pm12 ct12 cd12 oc13 kV13 dc13 pm13 ct13 cd13 oc14 kV14 dc14 pm14 ct14 oc15 kV15 dc15 pm15 ct15 cd15 oc16 kV16 dc16 pm16 ct16 cd16 oc17 kV17 dc17 pm17 ct17 cd17 oc18 kV18 dc18 pm18 ct18 cd18 oc19 kV19 dc19 pm19 ct19 cd19 oc20 kV20 dc20 pm20 ct20 cd20 oc21 kV21 dc21 pm21 ct21 cd21 oc22 kV22 dc22 pm22 ct22 cd22 oc23 kV23 dc23 pm23 ct23 cd23 oc24 kV24 dc24 pm24 ct24 cd24 : Value}
    (a1 : PySem.W.nsIn K mainGlobals "check_half" = some (some (.ref f1)))
    (l1 : K.lookup f1 = some ⟨oc1, od1, .func (PySem.W.fnOf "check_half" "check_half" (defArgs s_check_half) (defBody s_check_half) (defScope s_check_half) .none kV1 dc1 pm1 an1 cd1 ct1), sl1⟩)
    (c1 : PySem.W.codeIn K cd1 "check_half" = true)
    (k1 : PySem.W.keepIn K (.ref f1) = true)
    (a2 : PySem.W.nsIn K mainGlobals "right_of" = some (some (.ref f2)))
    (l2 : K.lookup f2 = some ⟨oc2, od2, .func (PySem.W.fnOf "right_of" "right_of" (defArgs s_right_of) (defBody s_right_of) (defScope s_right_of) .none kV2 dc2 pm2 an2 cd2 ct2), sl2⟩)
    (c2 : PySem.W.codeIn K cd2 "right_of" = true)
    (k2 : PySem.W.keepIn K (.ref f2) = true)
    (a3 : PySem.W.nsIn K mainGlobals "patch_of" = some (some (.ref f3)))
    (l3 : K.lookup f3 = some ⟨oc3, od3, .func (PySem.W.fnOf "patch_of" "patch_of" (defArgs s_patch_of) (defBody s_patch_of) (defScope s_patch_of) .none kV3 dc3 pm3 an3 cd3 ct3), sl3⟩)
    (c3 : PySem.W.codeIn K cd3 "patch_of" = true)
    (k3 : PySem.W.keepIn K (.ref f3) = true)
    (a4 : PySem.W.nsIn K mainGlobals "rim_of" = some (some (.ref f4)))
    (l4 : K.lookup f4 = some ⟨oc4, od4, .func (PySem.W.fnOf "rim_of" "rim_of" (defArgs s_rim_of) (defBody s_rim_of) (defScope s_rim_of) .none kV4 dc4 pm4 an4 cd4 ct4), sl4⟩)
    (c4 : PySem.W.codeIn K cd4 "rim_of" = true)
    (k4 : PySem.W.keepIn K (.ref f4) = true)
    (a5 : PySem.W.nsIn K mainGlobals "knots" = some (some (.ref f5)))
    (l5 : K.lookup f5 = some ⟨oc5, od5, .func (PySem.W.fnOf "knots" "knots" (defArgs s_knots) (defBody s_knots) (defScope s_knots) .none kV5 dc5 pm5 an5 (.ref cc5) ct5), sl5⟩)
    (c5 : PySem.W.codeIn K (.ref cc5) "knots" = true)
    (k5 : PySem.W.keepIn K (.ref f5) = true)
    {co5 : Option Addr} {cv5 : Array Value} {cs5 : Array (Option Value)} {cf5 : Str} {tf5 tg5 tt5 : Tok} {fl5 tx5 : Int} {nF5 : Bool}
    (kl5 : K.lookup cc5 = some ⟨.type "code", co5, .fields cv5, cs5⟩)
    (e11_5 : cv5[11]? = some (.ref P5))
    (g11_5 : cv5.getD 11 .none = .ref P5)
    (g18_5 : cv5.getD 18 .none = .str cf5 tf5)
    (g7_5 : cv5.getD 7 .none = .int fl5 tg5)
    (g9_5 : cv5.getD 9 .none = .bool nF5)
    (g10_5 : cv5.getD 10 .none = .int tx5 tt5)
    (ne5 : cc5 ≠ P5)
    (a6 : PySem.W.nsIn K mainGlobals "seams" = some (some (.ref f6)))
    (l6 : K.lookup f6 = some ⟨oc6, od6, .func (PySem.W.fnOf "seams" "seams" (defArgs s_seams) (defBody s_seams) (defScope s_seams) .none kV6 dc6 pm6 an6 cd6 ct6), sl6⟩)
    (c6 : PySem.W.codeIn K cd6 "seams" = true)
    (k6 : PySem.W.keepIn K (.ref f6) = true)
    (a7 : PySem.W.nsIn K mainGlobals "patches" = some (some (.ref f7)))
    (l7 : K.lookup f7 = some ⟨oc7, od7, .func (PySem.W.fnOf "patches" "patches" (defArgs s_patches) (defBody s_patches) (defScope s_patches) .none kV7 dc7 pm7 an7 (.ref cc7) ct7), sl7⟩)
    (c7 : PySem.W.codeIn K (.ref cc7) "patches" = true)
    (k7 : PySem.W.keepIn K (.ref f7) = true)
    {co7 : Option Addr} {cv7 : Array Value} {cs7 : Array (Option Value)} {cf7 : Str} {tf7 tg7 tt7 : Tok} {fl7 tx7 : Int} {nF7 : Bool}
    (kl7 : K.lookup cc7 = some ⟨.type "code", co7, .fields cv7, cs7⟩)
    (e11_7 : cv7[11]? = some (.ref P7))
    (g11_7 : cv7.getD 11 .none = .ref P7)
    (g18_7 : cv7.getD 18 .none = .str cf7 tf7)
    (g7_7 : cv7.getD 7 .none = .int fl7 tg7)
    (g9_7 : cv7.getD 9 .none = .bool nF7)
    (g10_7 : cv7.getD 10 .none = .int tx7 tt7)
    (ne7 : cc7 ≠ P7)
    (a8 : PySem.W.nsIn K mainGlobals "rims" = some (some (.ref f8)))
    (l8 : K.lookup f8 = some ⟨oc8, od8, .func (PySem.W.fnOf "rims" "rims" (defArgs s_rims) (defBody s_rims) (defScope s_rims) .none kV8 dc8 pm8 an8 (.ref cc8) ct8), sl8⟩)
    (c8 : PySem.W.codeIn K (.ref cc8) "rims" = true)
    (k8 : PySem.W.keepIn K (.ref f8) = true)
    {co8 : Option Addr} {cv8 : Array Value} {cs8 : Array (Option Value)} {cf8 : Str} {tf8 tg8 tt8 : Tok} {fl8 tx8 : Int} {nF8 : Bool}
    (kl8 : K.lookup cc8 = some ⟨.type "code", co8, .fields cv8, cs8⟩)
    (e11_8 : cv8[11]? = some (.ref P8))
    (g11_8 : cv8.getD 11 .none = .ref P8)
    (g18_8 : cv8.getD 18 .none = .str cf8 tf8)
    (g7_8 : cv8.getD 7 .none = .int fl8 tg8)
    (g9_8 : cv8.getD 9 .none = .bool nF8)
    (g10_8 : cv8.getD 10 .none = .int tx8 tt8)
    (ne8 : cc8 ≠ P8)
    (a9 : PySem.W.nsIn K mainGlobals "all_halves" = some (some (.ref f9)))
    (l9 : K.lookup f9 = some ⟨oc9, od9, .func (PySem.W.fnOf "all_halves" "all_halves" (defArgs s_all_halves) (defBody s_all_halves) (defScope s_all_halves) .none kV9 dc9 pm9 an9 cd9 ct9), sl9⟩)
    (c9 : PySem.W.codeIn K cd9 "all_halves" = true)
    (k9 : PySem.W.keepIn K (.ref f9) = true)
    (a10 : PySem.W.nsIn K mainGlobals "all_ahead" = some (some (.ref f10)))
    (l10 : K.lookup f10 = some ⟨oc10, od10, .func (PySem.W.fnOf "all_ahead" "all_ahead" (defArgs s_all_ahead) (defBody s_all_ahead) (defScope s_all_ahead) .none kV10 dc10 pm10 an10 cd10 ct10), sl10⟩)
    (c10 : PySem.W.codeIn K cd10 "all_ahead" = true)
    (k10 : PySem.W.keepIn K (.ref f10) = true)
    (a11 : PySem.W.nsIn K mainGlobals "first_of_knot" = some (some (.ref f11)))
    (l11 : K.lookup f11 = some ⟨oc11, od11, .func (PySem.W.fnOf "first_of_knot" "first_of_knot" (defArgs s_first_of_knot) (defBody s_first_of_knot) (defScope s_first_of_knot) .none kV11 dc11 pm11 an11 cd11 ct11), sl11⟩)
    (c11 : PySem.W.codeIn K cd11 "first_of_knot" = true)
    (k11 : PySem.W.keepIn K (.ref f11) = true)
    (a12 : PySem.W.nsIn K mainGlobals "walk_left" = some (some (.ref f12)))
    (l12 : K.lookup f12 = some ⟨oc12, od12, .func (PySem.W.fnOf "walk_left" "walk_left" (defArgs s_walk_left) (defBody s_walk_left) (defScope s_walk_left) .none kV12 dc12 pm12 an12 cd12 ct12), sl12⟩)
    (c12 : PySem.W.codeIn K cd12 "walk_left" = true)
    (k12 : PySem.W.keepIn K (.ref f12) = true)
    (a13 : PySem.W.nsIn K mainGlobals "each_once" = some (some (.ref f13)))
    (l13 : K.lookup f13 = some ⟨oc13, od13, .func (PySem.W.fnOf "each_once" "each_once" (defArgs s_each_once) (defBody s_each_once) (defScope s_each_once) .none kV13 dc13 pm13 an13 cd13 ct13), sl13⟩)
    (c13 : PySem.W.codeIn K cd13 "each_once" = true)
    (k13 : PySem.W.keepIn K (.ref f13) = true)
    (a14 : PySem.W.nsIn K mainGlobals "parts" = some (some (.ref f14)))
    (l14 : K.lookup f14 = some ⟨oc14, od14, .func (PySem.W.fnOf "parts" "parts" (defArgs s_parts) (defBody s_parts) (defScope s_parts) .none kV14 dc14 pm14 an14 (.ref cc14) ct14), sl14⟩)
    (c14 : PySem.W.codeIn K (.ref cc14) "parts" = true)
    (k14 : PySem.W.keepIn K (.ref f14) = true)
    {co14 : Option Addr} {cv14 : Array Value} {cs14 : Array (Option Value)} {cf14 : Str} {tf14 tg14 tt14 : Tok} {fl14 tx14 : Int} {nF14 : Bool}
    (kl14 : K.lookup cc14 = some ⟨.type "code", co14, .fields cv14, cs14⟩)
    (e11_14 : cv14[11]? = some (.ref P14))
    (g11_14 : cv14.getD 11 .none = .ref P14)
    (g18_14 : cv14.getD 18 .none = .str cf14 tf14)
    (g7_14 : cv14.getD 7 .none = .int fl14 tg14)
    (g9_14 : cv14.getD 9 .none = .bool nF14)
    (g10_14 : cv14.getD 10 .none = .int tx14 tt14)
    (ne14 : cc14 ≠ P14)
    (a15 : PySem.W.nsIn K mainGlobals "reached_from" = some (some (.ref f15)))
    (l15 : K.lookup f15 = some ⟨oc15, od15, .func (PySem.W.fnOf "reached_from" "reached_from" (defArgs s_reached_from) (defBody s_reached_from) (defScope s_reached_from) .none kV15 dc15 pm15 an15 cd15 ct15), sl15⟩)
    (c15 : PySem.W.codeIn K cd15 "reached_from" = true)
    (k15 : PySem.W.keepIn K (.ref f15) = true)
    (a16 : PySem.W.nsIn K mainGlobals "counts" = some (some (.ref f16)))
    (l16 : K.lookup f16 = some ⟨oc16, od16, .func (PySem.W.fnOf "counts" "counts" (defArgs s_counts) (defBody s_counts) (defScope s_counts) .none kV16 dc16 pm16 an16 cd16 ct16), sl16⟩)
    (c16 : PySem.W.codeIn K cd16 "counts" = true)
    (k16 : PySem.W.keepIn K (.ref f16) = true)
    (a17 : PySem.W.nsIn K mainGlobals "handles_of" = some (some (.ref f17)))
    (l17 : K.lookup f17 = some ⟨oc17, od17, .func (PySem.W.fnOf "handles_of" "handles_of" (defArgs s_handles_of) (defBody s_handles_of) (defScope s_handles_of) .none kV17 dc17 pm17 an17 cd17 ct17), sl17⟩)
    (c17 : PySem.W.codeIn K cd17 "handles_of" = true)
    (k17 : PySem.W.keepIn K (.ref f17) = true)
    (a18 : PySem.W.nsIn K mainGlobals "totals" = some (some (.ref f18)))
    (l18 : K.lookup f18 = some ⟨oc18, od18, .func (PySem.W.fnOf "totals" "totals" (defArgs s_totals) (defBody s_totals) (defScope s_totals) .none kV18 dc18 pm18 an18 cd18 ct18), sl18⟩)
    (c18 : PySem.W.codeIn K cd18 "totals" = true)
    (k18 : PySem.W.keepIn K (.ref f18) = true)
    (a19 : PySem.W.nsIn K mainGlobals "_law_net" = some (some (.ref f19)))
    (l19 : K.lookup f19 = some ⟨oc19, od19, .func (PySem.W.fnOf "_law_net" "_law_net" (defArgs s__law_net) (defBody s__law_net) (defScope s__law_net) .none kV19 dc19 pm19 an19 cd19 ct19), sl19⟩)
    (c19 : PySem.W.codeIn K cd19 "_law_net" = true)
    (k19 : PySem.W.keepIn K (.ref f19) = true)
    (a20 : PySem.W.nsIn K mainGlobals "_law_word_skin" = some (some (.ref f20)))
    (l20 : K.lookup f20 = some ⟨oc20, od20, .func (PySem.W.fnOf "_law_word_skin" "_law_word_skin" (defArgs s__law_word_skin) (defBody s__law_word_skin) (defScope s__law_word_skin) .none kV20 dc20 pm20 an20 cd20 ct20), sl20⟩)
    (c20 : PySem.W.codeIn K cd20 "_law_word_skin" = true)
    (k20 : PySem.W.keepIn K (.ref f20) = true)
    (a21 : PySem.W.nsIn K mainGlobals "_law_bag" = some (some (.ref f21)))
    (l21 : K.lookup f21 = some ⟨oc21, od21, .func (PySem.W.fnOf "_law_bag" "_law_bag" (defArgs sBag) (defBody sBag) (defScope sBag) .none kV21 dc21 pm21 an21 cd21 ct21), sl21⟩)
    (c21 : PySem.W.codeIn K cd21 "_law_bag" = true)
    (k21 : PySem.W.keepIn K (.ref f21) = true)
    (a22 : PySem.W.nsIn K mainGlobals "_law_take" = some (some (.ref f22)))
    (l22 : K.lookup f22 = some ⟨oc22, od22, .func (PySem.W.fnOf "_law_take" "_law_take" (defArgs sTake) (defBody sTake) (defScope sTake) .none kV22 dc22 pm22 an22 cd22 ct22), sl22⟩)
    (c22 : PySem.W.codeIn K cd22 "_law_take" = true)
    (k22 : PySem.W.keepIn K (.ref f22) = true)
    (a23 : PySem.W.nsIn K mainGlobals "_law_renumbered" = some (some (.ref f23)))
    (l23 : K.lookup f23 = some ⟨oc23, od23, .func (PySem.W.fnOf "_law_renumbered" "_law_renumbered" (defArgs s__law_renumbered) (defBody s__law_renumbered) (defScope s__law_renumbered) .none kV23 dc23 pm23 an23 cd23 ct23), sl23⟩)
    (c23 : PySem.W.codeIn K cd23 "_law_renumbered" = true)
    (k23 : PySem.W.keepIn K (.ref f23) = true)
    (a24 : PySem.W.nsIn K mainGlobals "law" = some (some (.ref f24)))
    (l24 : K.lookup f24 = some ⟨oc24, od24, .func (PySem.W.fnOf "law" "law" (defArgs sLaw) (defBody sLaw) (defScope sLaw) .none kV24 dc24 pm24 an24 cd24 ct24), sl24⟩)
    (c24 : PySem.W.codeIn K cd24 "law" = true)
    (k24 : PySem.W.keepIn K (.ref f24) = true)
    (d_5_14 : P5 ≠ P14)
    (d_5_7 : P5 ≠ P7)
    (d_5_8 : P5 ≠ P8)
    (d_14_5 : P14 ≠ P5)
    (d_14_7 : P14 ≠ P7)
    (d_14_8 : P14 ≠ P8)
    (d_7_5 : P7 ≠ P5)
    (d_7_14 : P7 ≠ P14)
    (d_7_8 : P7 ≠ P8)
    (d_8_5 : P8 ≠ P5)
    (d_8_14 : P8 ≠ P14)
    (d_8_7 : P8 ≠ P7)
    (z_len : PySem.W.nsIn K mainGlobals "len" = some none)
    (z_range : PySem.W.nsIn K mainGlobals "range" = some none)
    (z_list : PySem.W.nsIn K mainGlobals "list" = some none)
    (z_tuple : PySem.W.nsIn K mainGlobals "tuple" = some none)
    (z_min : PySem.W.nsIn K mainGlobals "min" = some none)
    (z_int : PySem.W.nsIn K mainGlobals "int" = some none)
    (z_bool : PySem.W.nsIn K mainGlobals "bool" = some none)
    (z_isinstance : PySem.W.nsIn K mainGlobals "isinstance" = some none)
    (z_set : PySem.W.nsIn K mainGlobals "set" = some none)
    (z_all : PySem.W.nsIn K mainGlobals "all" = some none)
    (z_enumerate : PySem.W.nsIn K mainGlobals "enumerate" = some none)
    (z_sorted : PySem.W.nsIn K mainGlobals "sorted" = some none)
    (z_zip : PySem.W.nsIn K mainGlobals "zip" = some none)
    (z_sum : PySem.W.nsIn K mainGlobals "sum" = some none)
    {c_NoHalf : Addr}
    (ac_NoHalf : PySem.W.nsIn K mainGlobals "NoHalf" = some (some (.ref c_NoHalf)))
    (ow_NoHalf : PySem.W.excIn K c_NoHalf [.type "ValueError", .type "Exception", .type "BaseException", .type "object"] "ValueError.__new__" = true)
    {c_NoRim : Addr}
    (ac_NoRim : PySem.W.nsIn K mainGlobals "NoRim" = some (some (.ref c_NoRim)))
    (ow_NoRim : PySem.W.excIn K c_NoRim [.type "ValueError", .type "Exception", .type "BaseException", .type "object"] "ValueError.__new__" = true)
    : ∃ fd : FuncData, (∀ (s : Shared) (v : Value), BindsTo s fd ⟨[v], []⟩ [("script", v)]) ∧ ∀ base : Heap, K.In base → base.Ns mainGlobals mg → Bmain mg base → FnOk l.prog w K mg base CX0 10 fa fd ["script"] (spLaw K [tabOf P5 "knots" s_knots, tabOf P14 "parts" s_parts, tabOf P7 "patches" s_patches, tabOf P8 "rims" s_rims]) := by
  have e := hfa.symm.trans (PySem.W.mg_of X G a24)
  cases e
  have F1 := fun_mk (st := s_check_half) l1 c1 k1
  have b1 := F1.binds (ps := ["skin", "half"]) fun _ _ _ _ _ _ us hl => match us, hl with | [_, _], _ => rfl
  have m1 := PySem.W.mg_of X G a1
  have F2 := fun_mk (st := s_right_of) l2 c2 k2
  have b2 := F2.binds (ps := ["skin", "half"]) fun _ _ _ _ _ _ us hl => match us, hl with | [_, _], _ => rfl
  have m2 := PySem.W.mg_of X G a2
  have F3 := fun_mk (st := s_patch_of) l3 c3 k3
  have b3 := F3.binds (ps := ["skin", "half"]) fun _ _ _ _ _ _ us hl => match us, hl with | [_, _], _ => rfl
  have m3 := PySem.W.mg_of X G a3
  have F4 := fun_mk (st := s_rim_of) l4 c4 k4
  have b4 := F4.binds (ps := ["skin", "half"]) fun _ _ _ _ _ _ us hl => match us, hl with | [_, _], _ => rfl
  have m4 := PySem.W.mg_of X G a4
  have F5 := funC_mk (st := s_knots) l5 c5 k5
  have b5 := F5.toFun.binds (ps := ["skin"]) fun _ _ _ _ _ _ us hl => match us, hl with | [_], _ => rfl
  have m5 := PySem.W.mg_of X G a5
  have F6 := fun_mk (st := s_seams) l6 c6 k6
  have b6 := F6.binds (ps := ["skin"]) fun _ _ _ _ _ _ us hl => match us, hl with | [_], _ => rfl
  have m6 := PySem.W.mg_of X G a6
  have F7 := funC_mk (st := s_patches) l7 c7 k7
  have b7 := F7.toFun.binds (ps := ["skin"]) fun _ _ _ _ _ _ us hl => match us, hl with | [_], _ => rfl
  have m7 := PySem.W.mg_of X G a7
  have F8 := funC_mk (st := s_rims) l8 c8 k8
  have b8 := F8.toFun.binds (ps := ["skin"]) fun _ _ _ _ _ _ us hl => match us, hl with | [_], _ => rfl
  have m8 := PySem.W.mg_of X G a8
  have F9 := fun_mk (st := s_all_halves) l9 c9 k9
  have b9 := F9.binds (ps := ["skin"]) fun _ _ _ _ _ _ us hl => match us, hl with | [_], _ => rfl
  have m9 := PySem.W.mg_of X G a9
  have F10 := fun_mk (st := s_all_ahead) l10 c10 k10
  have b10 := F10.binds (ps := ["skin"]) fun _ _ _ _ _ _ us hl => match us, hl with | [_], _ => rfl
  have m10 := PySem.W.mg_of X G a10
  have F11 := fun_mk (st := s_first_of_knot) l11 c11 k11
  have b11 := F11.binds (ps := ["skin", "half"]) fun _ _ _ _ _ _ us hl => match us, hl with | [_, _], _ => rfl
  have m11 := PySem.W.mg_of X G a11
  have F12 := fun_mk (st := s_walk_left) l12 c12 k12
  have b12 := F12.binds (ps := ["skin", "ahead", "first"]) fun _ _ _ _ _ _ us hl => match us, hl with | [_, _, _], _ => rfl
  have m12 := PySem.W.mg_of X G a12
  have F13 := fun_mk (st := s_each_once) l13 c13 k13
  have b13 := F13.binds (ps := ["halves", "walk_from"]) fun _ _ _ _ _ _ us hl => match us, hl with | [_, _], _ => rfl
  have m13 := PySem.W.mg_of X G a13
  have F14 := funC_mk (st := s_parts) l14 c14 k14
  have b14 := F14.toFun.binds (ps := ["skin"]) fun _ _ _ _ _ _ us hl => match us, hl with | [_], _ => rfl
  have m14 := PySem.W.mg_of X G a14
  have F15 := fun_mk (st := s_reached_from) l15 c15 k15
  have b15 := F15.binds (ps := ["skin", "half"]) fun _ _ _ _ _ _ us hl => match us, hl with | [_, _], _ => rfl
  have m15 := PySem.W.mg_of X G a15
  have F16 := fun_mk (st := s_counts) l16 c16 k16
  have b16 := F16.binds (ps := ["skin"]) fun _ _ _ _ _ _ us hl => match us, hl with | [_], _ => rfl
  have m16 := PySem.W.mg_of X G a16
  have F17 := fun_mk (st := s_handles_of) l17 c17 k17
  have b17 := F17.binds (ps := ["row"]) fun _ _ _ _ _ _ us hl => match us, hl with | [_], _ => rfl
  have m17 := PySem.W.mg_of X G a17
  have F18 := fun_mk (st := s_totals) l18 c18 k18
  have b18 := F18.binds (ps := ["skin"]) fun _ _ _ _ _ _ us hl => match us, hl with | [_], _ => rfl
  have m18 := PySem.W.mg_of X G a18
  have F19 := fun_mk (st := s__law_net) l19 c19 k19
  have b19 := F19.binds (ps := ["wide", "high", "round_wide", "round_high"]) fun _ _ _ _ _ _ us hl => match us, hl with | [_, _, _, _], _ => rfl
  have m19 := PySem.W.mg_of X G a19
  have F20 := fun_mk (st := s__law_word_skin) l20 c20 k20
  have b20 := F20.binds (ps := ["handles", "alone"]) fun _ _ _ _ _ _ us hl => match us, hl with | [_, _], _ => rfl
  have m20 := PySem.W.mg_of X G a20
  have F21 := fun_mk (st := sBag) l21 c21 k21
  have b21 := F21.binds (ps := ["script", "k"]) fun _ _ _ _ _ _ us hl => match us, hl with | [_, _], _ => rfl
  have m21 := PySem.W.mg_of X G a21
  have F22 := fun_mk (st := sTake) l22 c22 k22
  have b22 := F22.binds (ps := ["bag", "many"]) fun _ _ _ _ _ _ us hl => match us, hl with | [_, _], _ => rfl
  have m22 := PySem.W.mg_of X G a22
  have F23 := fun_mk (st := s__law_renumbered) l23 c23 k23
  have b23 := F23.binds (ps := ["bag", "skin"]) fun _ _ _ _ _ _ us hl => match us, hl with | [_, _], _ => rfl
  have m23 := PySem.W.mg_of X G a23
  have F24 := fun_mk (st := sLaw) l24 c24 k24
  have B : BiQ mg := ⟨⟨PySem.W.mg_none_of X G z_len, PySem.W.mg_none_of X G z_range, PySem.W.mg_none_of X G z_list, PySem.W.mg_none_of X G z_tuple, PySem.W.mg_none_of X G z_min, PySem.W.mg_none_of X G z_int, PySem.W.mg_none_of X G z_bool, PySem.W.mg_none_of X G z_isinstance, PySem.W.mg_none_of X G z_set, PySem.W.mg_none_of X G z_all, PySem.W.mg_none_of X G z_enumerate⟩, PySem.W.mg_none_of X G z_sorted, PySem.W.mg_none_of X G z_zip, PySem.W.mg_none_of X G z_sum⟩
  have g_NoHalf := PySem.W.mg_of X G ac_NoHalf
  have g_NoRim := PySem.W.mg_of X G ac_NoRim
  let T : TabL := [tabOf P5 "knots" s_knots, tabOf P14 "parts" s_parts, tabOf P7 "patches" s_patches, tabOf P8 "rims" s_rims]
  have hT5 : (tabOf P5 "knots" s_knots) ∈ T := (List.Mem.head _)
  have hU5 : ∀ t ∈ T, t.1 = P5 → t = (tabOf P5 "knots" s_knots) := fun t ht e => by
    rcases List.mem_cons.mp ht with q | ht
    · exact q
    rcases List.mem_cons.mp ht with q | ht
    · rw [q] at e; exact absurd e d_14_5
    rcases List.mem_cons.mp ht with q | ht
    · rw [q] at e; exact absurd e d_7_5
    rcases List.mem_cons.mp ht with q | ht
    · rw [q] at e; exact absurd e d_8_5
    cases ht
  have Cd5 : ∀ h, K.In h → PySem.W.CodeHd h cc5 P5 := fun h X => codeHd_of X kl5 e11_5 g11_5 g18_5 g7_5 g9_5 g10_5 ne5
  have hT14 : (tabOf P14 "parts" s_parts) ∈ T := (List.Mem.tail _ (List.Mem.head _))
  have hU14 : ∀ t ∈ T, t.1 = P14 → t = (tabOf P14 "parts" s_parts) := fun t ht e => by
    rcases List.mem_cons.mp ht with q | ht
    · rw [q] at e; exact absurd e d_5_14
    rcases List.mem_cons.mp ht with q | ht
    · exact q
    rcases List.mem_cons.mp ht with q | ht
    · rw [q] at e; exact absurd e d_7_14
    rcases List.mem_cons.mp ht with q | ht
    · rw [q] at e; exact absurd e d_8_14
    cases ht
  have Cd14 : ∀ h, K.In h → PySem.W.CodeHd h cc14 P14 := fun h X => codeHd_of X kl14 e11_14 g11_14 g18_14 g7_14 g9_14 g10_14 ne14
  have hT7 : (tabOf P7 "patches" s_patches) ∈ T := (List.Mem.tail _ (List.Mem.tail _ (List.Mem.head _)))
  have hU7 : ∀ t ∈ T, t.1 = P7 → t = (tabOf P7 "patches" s_patches) := fun t ht e => by
    rcases List.mem_cons.mp ht with q | ht
    · rw [q] at e; exact absurd e d_5_7
    rcases List.mem_cons.mp ht with q | ht
    · rw [q] at e; exact absurd e d_14_7
    rcases List.mem_cons.mp ht with q | ht
    · exact q
    rcases List.mem_cons.mp ht with q | ht
    · rw [q] at e; exact absurd e d_8_7
    cases ht
  have Cd7 : ∀ h, K.In h → PySem.W.CodeHd h cc7 P7 := fun h X => codeHd_of X kl7 e11_7 g11_7 g18_7 g7_7 g9_7 g10_7 ne7
  have hT8 : (tabOf P8 "rims" s_rims) ∈ T := (List.Mem.tail _ (List.Mem.tail _ (List.Mem.tail _ (List.Mem.head _))))
  have hU8 : ∀ t ∈ T, t.1 = P8 → t = (tabOf P8 "rims" s_rims) := fun t ht e => by
    rcases List.mem_cons.mp ht with q | ht
    · rw [q] at e; exact absurd e d_5_8
    rcases List.mem_cons.mp ht with q | ht
    · rw [q] at e; exact absurd e d_14_8
    rcases List.mem_cons.mp ht with q | ht
    · rw [q] at e; exact absurd e d_7_8
    rcases List.mem_cons.mp ht with q | ht
    · exact q
    cases ht
  have Cd8 : ∀ h, K.In h → PySem.W.CodeHd h cc8 P8 := fun h X => codeHd_of X kl8 e11_8 g11_8 g18_8 g7_8 g9_8 g10_8 ne8
  refine ⟨PySem.W.fnOf "law" "law" (defArgs sLaw) (defBody sLaw) (defScope sLaw) .none kV24 dc24 pm24 an24 cd24 ct24, fun s v => .of_eq rfl, fun base kin _ Bm => ?_⟩
  have FT : Fn l.prog w K mg base _ _ _ _ := fn_of F22 (ok_take F22) b22 m22
  have FG : Fn l.prog w K mg base _ _ _ _ := fn_of F21 (ok_bag B.toBi F21) b21 m21
  have FC : FnX l.prog w K mg base _ _ _ _ := fnx_of F1 (ok_check B.toBi ow_NoHalf g_NoHalf F1) b1 m1
  have FRo : FnX l.prog w K mg base _ _ _ _ := fnx_of F2 (ok_right_of B.toBi FC F2) b2 m2
  have FP : FnX l.prog w K mg base _ _ _ _ := fnx_of F3 (ok_patch_of B.toBi FC F3) b3 m3
  have FF : Fn l.prog w K mg base _ _ _ _ := fn_of F11 (ok_fst B.toBi FRo F11) b11 m11
  have FAl : Fn l.prog w K mg base _ _ _ _ := fn_of F10 (ok_all_ahead B.toBi F10) b10 m10
  have FWl : Fn l.prog w K mg base _ _ _ _ := fn_of F12 (ok_walk_left B.toBi F12) b12 m12
  have FI : FnX l.prog w K mg base _ _ _ _ := fnx_of F4 (ok_rim_of B.toBi ow_NoRim g_NoRim FC FF F4) b4 m4
  have FH : Fn l.prog w K mg base _ _ _ _ := fn_of F9 (ok_halves B.toBi F9) b9 m9
  have FO := ok_once B.toBi (P := l.prog) (w := w) (base := base) F13 b13 m13
  have FPa : Fn l.prog w K mg base _ _ _ _ := fn_of F7.toFun (ok_patches hT7 hU7 B.toBi kin Cd7 Bm FO FH FP F7) b7 m7
  have FK : Fn l.prog w K mg base _ _ _ _ := fn_of F5.toFun (ok_knots hT5 hU5 B.toBi kin Cd5 Bm FO FH FAl FF FWl F5) b5 m5
  have FRi : Fn l.prog w K mg base _ _ _ _ := fn_of F8.toFun (ok_rims hT8 hU8 B.toBi kin Cd8 Bm FO FI F8) b8 m8
  have FSe : Fn l.prog w K mg base _ _ _ _ := fn_of F6 (ok_seams B.toBi F6) b6 m6
  have FRe : Fn l.prog w K mg base _ _ _ _ := fn_of F15 (ok_reached B.toBi F15) b15 m15
  have FPs : Fn l.prog w K mg base _ _ _ _ := fn_of F14.toFun (ok_parts hT14 hU14 B.toBi kin Cd14 Bm B.sorted_ FO FH FRe F14) b14 m14
  have FHo : Fn l.prog w K mg base _ _ _ _ := fn_of F17 (ok_handles F17) b17 m17
  have FCo : Fn l.prog w K mg base _ _ _ _ := fn_of F16 (ok_counts B.toBi FPs FK FSe FPa FRi FHo (fun _ _ S => walks_ok S) F16) b16 m16
  have FTo : Fn l.prog w K mg base _ _ _ _ := fn_of F18 (ok_totals B.toBi B.zip_ B.sum_ FCo F18) b18 m18
  have FNt : Fn l.prog w K mg base _ _ _ _ := fn_of F19 (ok_net B.toBi B.zip_ F19) b19 m19
  have FWd : Fn l.prog w K mg base _ _ _ _ := fn_of F20 (ok_word B.toBi F20) b20 m20
  have FRn : Fn l.prog w K mg base _ _ _ _ := fn_of F23 (ok_renum B.toBi FT F23) b23 m23
  exact ok_law B FT FG FNt FWd FRn FCo FTo F24
theorem walk {l : PySem.W.OpenLaw} {q : Program} {loose : List Str} {XP : (Str → Option Value) → Heap → Prop} {YP : World → Heap → Prop} {d : DefRec} {K : Params → PySem.W.Frag} {P5 P14 P7 P8 : Addr} (hn : l.most = some 63) (hdf : d.params.defaults = [])
    (hY : ∀ (w : World) (h : Heap), YP w h → (K w.params).In h)
    (F : ∀ (w : World) (mg : Str → Option Value) (fa : Addr) (h : Heap), (K w.params).In h → h.Ns mainGlobals mg → mg d.name = some (.ref fa) →
      ∃ fd : FuncData, (∀ (s : Shared) (u : Value), BindsTo s fd ⟨[u], []⟩ [("script", u)]) ∧ ∀ base : Heap, (K w.params).In base → base.Ns mainGlobals mg → Bmain mg base → FnOk l.prog w (K w.params) mg base CX0 10 fa fd ["script"] (spLaw (K w.params) [tabOf P5 "knots" s_knots, tabOf P14 "parts" s_parts, tabOf P7 "patches" s_patches, tabOf P8 "rims" s_rims]))
    (nT : ∀ w : World, PySem.W.noTabs (K w.params) = true)
    (hx5 : ∀ w : World, ∃ y e, (PyProof.Rows.recsOf q).find? (fun e => e.name == y) = some e ∧ (PySem.W.tabIn (K w.params) y).map (·.2) = some P5)
    (hx14 : ∀ w : World, ∃ y e, (PyProof.Rows.recsOf q).find? (fun e => e.name == y) = some e ∧ (PySem.W.tabIn (K w.params) y).map (·.2) = some P14)
    (hx7 : ∀ w : World, ∃ y e, (PyProof.Rows.recsOf q).find? (fun e => e.name == y) = some e ∧ (PySem.W.tabIn (K w.params) y).map (·.2) = some P7)
    (hx8 : ∀ w : World, ∃ y e, (PyProof.Rows.recsOf q).find? (fun e => e.name == y) = some e ∧ (PySem.W.tabIn (K w.params) y).map (·.2) = some P8) :
    PySem.W.WalkO q loose XP YP l.row.toRowW d [] (fun f vs => PySem.call f vs) :=
  Hs.walk_ofT (n := 63) (k := 10) (x := "script") (sp := fun w => spLaw (K w.params) [tabOf P5 "knots" s_knots, tabOf P14 "parts" s_parts, tabOf P7 "patches" s_patches, tabOf P8 "rims" s_rims]) [P5, P14, P7, P8] hn (by decide) hdf ⟨rfl, by decide, by decide⟩ hY nT (fun w cp m => by
    rcases List.mem_cons.mp m with rfl | m
    · exact hx5 w
    rcases List.mem_cons.mp m with rfl | m
    · exact hx14 w
    rcases List.mem_cons.mp m with rfl | m
    · exact hx7 w
    rcases List.mem_cons.mp m with rfl | m
    · exact hx8 w
    cases m) F (fun _ _ a ns hl hS ht => ⟨a, ns, rfl, hS, hl, (fun t m => by
    rcases List.mem_cons.mp m with rfl | m
    · exact ⟨#[], ht P5 (List.Mem.head _), trivial, .inl rfl⟩
    rcases List.mem_cons.mp m with rfl | m
    · exact ⟨#[], ht P14 (List.Mem.tail _ (List.Mem.head _)), trivial, .inl rfl⟩
    rcases List.mem_cons.mp m with rfl | m
    · exact ⟨#[], ht P7 (List.Mem.tail _ (List.Mem.tail _ (List.Mem.head _))), trivial, .inl rfl⟩
    rcases List.mem_cons.mp m with rfl | m
    · exact ⟨#[], ht P8 (List.Mem.tail _ (List.Mem.tail _ (List.Mem.tail _ (List.Mem.head _)))), trivial, .inl rfl⟩
    cases m), fun _ => rfl⟩)
end Hs
open PySem PySem.W PyProof.Rows
set_option maxRecDepth 100000 in
set_option maxHeartbeats 0 in
theorem PySem.Challenge.cw_halfseams_k09_whole_known_counts_holds : PySem.Challenge.rw_halfseams_k09_whole_known_counts.Holds := by
  w_on; o_law; k_head; (case hw => w_witness2)
  k_fill
  refine' Hs.walk (l := PySem.Challenge.rw_halfseams_k09_whole_known_counts) rfl rfl (fun w h Y => PySem.W.km_in_of Y) ?F ?nT ?hx5 ?hx14 ?hx7 ?hx8
  case F =>
    intro w mg fa h KX G hmg
    refine' Hs.all_mk KX G hmg ?a1 ?l1 ?c1 ?k1 ?a2 ?l2 ?c2 ?k2 ?a3 ?l3 ?c3 ?k3 ?a4 ?l4 ?c4 ?k4 ?a5 ?l5 ?c5 ?k5 ?kl5 ?e11_5 ?g11_5 ?g18_5 ?g7_5 ?g9_5 ?g10_5 ?ne5 ?a6 ?l6 ?c6 ?k6 ?a7 ?l7 ?c7 ?k7 ?kl7 ?e11_7 ?g11_7 ?g18_7 ?g7_7 ?g9_7 ?g10_7 ?ne7 ?a8 ?l8 ?c8 ?k8 ?kl8 ?e11_8 ?g11_8 ?g18_8 ?g7_8 ?g9_8 ?g10_8 ?ne8 ?a9 ?l9 ?c9 ?k9 ?a10 ?l10 ?c10 ?k10 ?a11 ?l11 ?c11 ?k11 ?a12 ?l12 ?c12 ?k12 ?a13 ?l13 ?c13 ?k13 ?a14 ?l14 ?c14 ?k14 ?kl14 ?e11_14 ?g11_14 ?g18_14 ?g7_14 ?g9_14 ?g10_14 ?ne14 ?a15 ?l15 ?c15 ?k15 ?a16 ?l16 ?c16 ?k16 ?a17 ?l17 ?c17 ?k17 ?a18 ?l18 ?c18 ?k18 ?a19 ?l19 ?c19 ?k19 ?a20 ?l20 ?c20 ?k20 ?a21 ?l21 ?c21 ?k21 ?a22 ?l22 ?c22 ?k22 ?a23 ?l23 ?c23 ?k23 ?a24 ?l24 ?c24 ?k24 ?d_5_14 ?d_5_7 ?d_5_8 ?d_14_5 ?d_14_7 ?d_14_8 ?d_7_5 ?d_7_14 ?d_7_8 ?d_8_5 ?d_8_14 ?d_8_7 ?z_len ?z_range ?z_list ?z_tuple ?z_min ?z_int ?z_bool ?z_isinstance ?z_set ?z_all ?z_enumerate ?z_sorted ?z_zip ?z_sum ?ac_NoHalf ?ow_NoHalf ?ac_NoRim ?ow_NoRim
    (case a1 => k_is)
    (case l1 => k_is)
    (case c1 => k_is)
    (case k1 => k_is)
    (case a2 => k_is)
    (case l2 => k_is)
    (case c2 => k_is)
    (case k2 => k_is)
    (case a3 => k_is)
    (case l3 => k_is)
    (case c3 => k_is)
    (case k3 => k_is)
    (case a4 => k_is)
    (case l4 => k_is)
    (case c4 => k_is)
    (case k4 => k_is)
    (case a5 => k_is)
    (case l5 => k_is)
    (case c5 => k_is)
    (case k5 => k_is)
    (case kl5 => k_is)
    (case e11_5 => rfl)
    (case g11_5 => rfl)
    (case g18_5 => rfl)
    (case g7_5 => rfl)
    (case g9_5 => rfl)
    (case g10_5 => rfl)
    (case ne5 => decide)
    (case a6 => k_is)
    (case l6 => k_is)
    (case c6 => k_is)
    (case k6 => k_is)
    (case a7 => k_is)
    (case l7 => k_is)
    (case c7 => k_is)
    (case k7 => k_is)
    (case kl7 => k_is)
    (case e11_7 => rfl)
    (case g11_7 => rfl)
    (case g18_7 => rfl)
    (case g7_7 => rfl)
    (case g9_7 => rfl)
    (case g10_7 => rfl)
    (case ne7 => decide)
    (case a8 => k_is)
    (case l8 => k_is)
    (case c8 => k_is)
    (case k8 => k_is)
    (case kl8 => k_is)
    (case e11_8 => rfl)
    (case g11_8 => rfl)
    (case g18_8 => rfl)
    (case g7_8 => rfl)
    (case g9_8 => rfl)
    (case g10_8 => rfl)
    (case ne8 => decide)
    (case a9 => k_is)
    (case l9 => k_is)
    (case c9 => k_is)
    (case k9 => k_is)
    (case a10 => k_is)
    (case l10 => k_is)
    (case c10 => k_is)
    (case k10 => k_is)
    (case a11 => k_is)
    (case l11 => k_is)
    (case c11 => k_is)
    (case k11 => k_is)
    (case a12 => k_is)
    (case l12 => k_is)
    (case c12 => k_is)
    (case k12 => k_is)
    (case a13 => k_is)
    (case l13 => k_is)
    (case c13 => k_is)
    (case k13 => k_is)
    (case a14 => k_is)
    (case l14 => k_is)
    (case c14 => k_is)
    (case k14 => k_is)
    (case kl14 => k_is)
    (case e11_14 => rfl)
    (case g11_14 => rfl)
    (case g18_14 => rfl)
    (case g7_14 => rfl)
    (case g9_14 => rfl)
    (case g10_14 => rfl)
    (case ne14 => decide)
    (case a15 => k_is)
    (case l15 => k_is)
    (case c15 => k_is)
    (case k15 => k_is)
    (case a16 => k_is)
    (case l16 => k_is)
    (case c16 => k_is)
    (case k16 => k_is)
    (case a17 => k_is)
    (case l17 => k_is)
    (case c17 => k_is)
    (case k17 => k_is)
    (case a18 => k_is)
    (case l18 => k_is)
    (case c18 => k_is)
    (case k18 => k_is)
    (case a19 => k_is)
    (case l19 => k_is)
    (case c19 => k_is)
    (case k19 => k_is)
    (case a20 => k_is)
    (case l20 => k_is)
    (case c20 => k_is)
    (case k20 => k_is)
    (case a21 => k_is)
    (case l21 => k_is)
    (case c21 => k_is)
    (case k21 => k_is)
    (case a22 => k_is)
    (case l22 => k_is)
    (case c22 => k_is)
    (case k22 => k_is)
    (case a23 => k_is)
    (case l23 => k_is)
    (case c23 => k_is)
    (case k23 => k_is)
    (case a24 => k_is)
    (case l24 => k_is)
    (case c24 => k_is)
    (case k24 => k_is)
    (case d_5_14 => decide)
    (case d_5_7 => decide)
    (case d_5_8 => decide)
    (case d_14_5 => decide)
    (case d_14_7 => decide)
    (case d_14_8 => decide)
    (case d_7_5 => decide)
    (case d_7_14 => decide)
    (case d_7_8 => decide)
    (case d_8_5 => decide)
    (case d_8_14 => decide)
    (case d_8_7 => decide)
    (case z_len => k_is)
    (case z_range => k_is)
    (case z_list => k_is)
    (case z_tuple => k_is)
    (case z_min => k_is)
    (case z_int => k_is)
    (case z_bool => k_is)
    (case z_isinstance => k_is)
    (case z_set => k_is)
    (case z_all => k_is)
    (case z_enumerate => k_is)
    (case z_sorted => k_is)
    (case z_zip => k_is)
    (case z_sum => k_is)
    (case ac_NoHalf => k_is)
    (case ow_NoHalf => k_exc)
    (case ac_NoRim => k_is)
    (case ow_NoRim => k_exc)
  case nT => intro w; kernel_rfl
  case hx5 => intro w; exact ⟨"knots", _, rfl, by kernel_rfl⟩
  case hx14 => intro w; exact ⟨"parts", _, rfl, by kernel_rfl⟩
  case hx7 => intro w; exact ⟨"patches", _, rfl, by kernel_rfl⟩
  case hx8 => intro w; exact ⟨"rims", _, rfl, by kernel_rfl⟩

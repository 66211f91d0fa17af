import PyProof.Rows.All
import Wide.All
import OpenK.AllK
import Wide.FinOn
import HandS.ForMost
import HandS.IsInst
import HandS.TupMul
import HandS.TupAny
import HandS.Exc
import HandS.ExcOwn
import HandS.ExcInit
import HandS.ExcField
import HandS.TryOnly
import HandS.WordsExc
import HandS.EndBits
import HandS.CallSlots
import HandS.SortRule
import PyProof.Rows.SortKeyStr
import PyProof.EqKinds
import PyProof.Rows.IntBool
import HandS.Iter
import HandS.Zip
import PyProof.EnumMake
import PyProof.EnumIter
import PyProof.EnumFor
import PyProof.Draws
import KE.GoesMore
import HandS.TryMany
import HandS.ExcIs
import HandS.SetFor
import HandS.Strs
import HandS.Style
import HandS.Codes
import HandS.Conv
import HandS.DictComp
import HandS.Deep
import PySem.Challenge.RW_hourcards_k42_whole_roots_of_webs
set_option Elab.async false
set_option linter.all false
set_option maxRecDepth 100000
set_option maxHeartbeats 4000000
namespace Hc
open PySem L2
/-- things, as far as they are looked into -/
inductive D where
  | non | bl (b : Bool) | int (i : Int) | str (s : Str) | tup (xs : List D) | lst | dct
def tyOf : D → String
  | .non => "NoneType" | .bl _ => "bool" | .int _ => "int" | .str _ => "str" | .tup _ => "tuple" | .lst => "list" | .dct => "dict"
section
variable (H : Hp) (h : Addr)
mutual
/-- v is the thing d, in the heap H, apart from the list at h -/
inductive Rp : V → D → Prop
  | non : Rp .non .non
  | bl (b : Bool) : Rp (.bl b) (.bl b)
  | int (i : Int) : Rp (.int i) (.int i)
  | str (x : Str) : Rp (.str x) (.str x)
  | tup {a : Addr} {xs : List V} {ds : List D} : H a = some (.tup xs) → xs.length ≤ 100000 → RpA xs ds → Rp (.ref a) (.tup ds)
  | lst {a : Addr} {xs : List V} : H a = some (.lst xs) → a ≠ h → Rp (.ref a) .lst
  | dct {a : Addr} {kvs : List (Key × V)} : H a = some (.dK kvs) → Rp (.ref a) .dct
inductive RpA : List V → List D → Prop
  | nil : RpA [] []
  | cons {v : V} {vs : List V} {d : D} {ds : List D} : Rp v d → RpA vs ds → RpA (v :: vs) (d :: ds)
end
end
/-- all but what stands at h is as it was -/
def But (h : Addr) (H H' : Hp) : Prop := ∀ b o, H b = some o → b ≠ h → H' b = some o
theorem But.refl (h : Addr) (H : Hp) : But h H H := fun _ _ e _ => e
theorem But.trans {h : Addr} {H H1 H2 : Hp} (a : But h H H1) (b : But h H1 H2) : But h H H2 := fun c o e n => b c o (a c o e n) n
theorem But.of {h : Addr} {H H' : Hp} (s : Same H H') : But h H H' := fun b o e _ => s b o e
theorem But.free {h : Addr} {H H' : Hp} (k : But h H H') {l : Addr} (hl : l ≠ h) (e : H' l = none) : H l = none := by
  cases q : H l with
  | none => rfl
  | some o => rw [k l o q hl] at e; cases e
theorem same_upd {H : Hp} {p : Addr} {o : HO} (hp : H p = none) : Same H (upd H p o) := fun b u e => by
  rw [upd_ne (ne_of_none e hp)]; exact e
theorem but_upd {H : Hp} {h : Addr} {o : HO} : But h H (upd H h o) := fun b u e n => by
  rw [upd_ne n]; exact e
def IsLst (H : Hp) (h : Addr) : Prop := ∃ xs, H h = some (.lst xs)
section
variable {H H' : Hp} {h : Addr}
mutual
theorem Rp.mono (l : IsLst H h) (k : But h H H') : ∀ {v : V} {d : D}, Rp H h v d → Rp H' h v d
  | _, _, .non => .non
  | _, _, .bl b => .bl b
  | _, _, .int i => .int i
  | _, _, .str x => .str x
  | _, _, .tup e z r => .tup (k _ _ e (by obtain ⟨zs, q⟩ := l; exact ne_of e q (by intro z; cases z))) z (RpA.mono l k r)
  | _, _, .lst e n => .lst (k _ _ e n) n
  | _, _, .dct e => .dct (k _ _ e (by obtain ⟨zs, q⟩ := l; exact ne_of e q (by intro z; cases z)))
theorem RpA.mono (l : IsLst H h) (k : But h H H') : ∀ {vs : List V} {ds : List D}, RpA H h vs ds → RpA H' h vs ds
  | _, _, .nil => .nil
  | _, _, .cons a r => .cons (Rp.mono l k a) (RpA.mono l k r)
end
mutual
theorem Rp.same (k : Same H H') : ∀ {v : V} {d : D}, Rp H h v d → Rp H' h v d
  | _, _, .non => .non
  | _, _, .bl b => .bl b
  | _, _, .int i => .int i
  | _, _, .str x => .str x
  | _, _, .tup e z r => .tup (k _ _ e) z (RpA.same k r)
  | _, _, .lst e n => .lst (k _ _ e) n
  | _, _, .dct e => .dct (k _ _ e)
theorem RpA.same (k : Same H H') : ∀ {vs : List V} {ds : List D}, RpA H h vs ds → RpA H' h vs ds
  | _, _, .nil => .nil
  | _, _, .cons a r => .cons (Rp.same k a) (RpA.same k r)
end
theorem RpA.len : ∀ {vs : List V} {ds : List D}, RpA H h vs ds → vs.length = ds.length
  | _, _, .nil => rfl
  | _, _, .cons a r => by rw [List.length_cons, List.length_cons, RpA.len r]
theorem RpA.get : ∀ {vs : List V} {ds : List D} {i : Nat} {v : V}, RpA H h vs ds → vs[i]? = some v → ∃ d, ds[i]? = some d ∧ Rp H h v d
  | _, _, i, _, .nil, e => by simp at e
  | _, _, 0, _, .cons a r, e => by simp at e; subst e; exact ⟨_, rfl, a⟩
  | _, _, i + 1, v, .cons a r, e => by
    obtain ⟨d, h1, h2⟩ := RpA.get (i := i) (v := v) r (by simpa using e)
    exact ⟨d, by simpa using h1, h2⟩
theorem RpA.app : ∀ {vs ws : List V} {ds es : List D}, RpA H h vs ds → RpA H h ws es → RpA H h (vs ++ ws) (ds ++ es)
  | _, _, _, _, .nil, s => s
  | _, _, _, _, .cons a r, s => .cons a (RpA.app r s)
theorem RpA.take : ∀ {vs : List V} {ds : List D} (n : Nat), RpA H h vs ds → RpA H h (vs.take n) (ds.take n)
  | _, _, 0, _ => .nil
  | _, _, _ + 1, .nil => .nil
  | _, _, n + 1, .cons a r => .cons a (RpA.take n r)
theorem RpA.drop : ∀ {vs : List V} {ds : List D} (n : Nat), RpA H h vs ds → RpA H h (vs.drop n) (ds.drop n)
  | _, _, 0, r => r
  | _, _, _ + 1, .nil => .nil
  | _, _, n + 1, .cons _ r => RpA.drop n r
/-- its type -/
theorem Rp.ty {K : PySem.W.Frag} {v : V} {d : D} (r : Rp H h v d) : TyX K H v (.type (tyOf d)) := by
  cases r with
  | non => exact .base .non
  | bl b => exact .base (.bl b)
  | int i => exact .base (.int i)
  | str x => exact .base (.str x)
  | tup e _ _ => exact .base (.tup e)
  | lst e _ => exact .base (.lst e)
  | dct e => exact .base (.dK e)
end
def isIB : D → Bool | .int _ => true | .bl _ => true | _ => false
def isB : D → Bool | .bl _ => true | _ => false
def isT : D → Bool | .tup _ => true | _ => false
theorem kitI (d : D) : kitB (tyOf d) "int" = some (isIB d) := by cases d <;> (simp only [tyOf, isIB]; decide +kernel)
theorem kitBo (d : D) : kitB (tyOf d) "bool" = some (isB d) := by cases d <;> (simp only [tyOf, isB]; decide +kernel)
theorem kitT (d : D) : kitB (tyOf d) "tuple" = some (isT d) := by cases d <;> (simp only [tyOf, isT]; decide +kernel)
def isInt : D → Bool | .int _ => true | _ => false
def isBtw (lo hi : Int) : D → Bool | .int i => decide (lo ≤ i) && decide (i ≤ hi) | _ => false
def areInts (n : Int) : D → Bool | .tup ds => decide ((ds.length : Int) = n) && ds.all isInt | _ => false
def areBtw (n lo hi : Int) : D → Bool | .tup ds => decide ((ds.length : Int) = n) && ds.all (isBtw lo hi) | _ => false
def neq2 : D → Bool | .tup (.int a :: .int b :: _) => !decide (a = b) | _ => false
def isBE (n : Int) (d : D) : Bool := areBtw 2 0 (n - 1) d && neq2 d
def areRoads (n : Int) : D → Bool | .tup ds => decide (1 ≤ ds.length) && decide (ds.length ≤ 24) && ds.all (isBE n) | _ => false
end Hc

set_option Elab.async false
set_option linter.all false
set_option maxRecDepth 100000
set_option maxHeartbeats 1000000
set_option autoImplicit false
namespace Pl
open PySem L2 PyProof.Rows
/-- Python's < of rows of ints -/
def lexI : List Int → List Int → Bool
  | [], [] => false
  | [], _ :: _ => true
  | _ :: _, [] => false
  | a :: as, b :: bs => if a = b then lexI as bs else decide (a < b)
theorem lexI_cons (a b : Int) (as bs : List Int) : lexI (a :: as) (b :: bs) = if a = b then lexI as bs else decide (a < b) := rfl
theorem lexI_asym : ∀ x y : List Int, lexI x y = true → lexI y x = false
  | [], [], h => by cases h
  | [], _ :: _, _ => rfl
  | _ :: _, [], h => by cases h
  | a :: as, b :: bs, h => by
    rw [lexI_cons] at h ⊢
    by_cases e : a = b
    · rw [if_pos e] at h
      rw [if_pos e.symm]
      exact lexI_asym as bs h
    · rw [if_neg e] at h
      rw [if_neg (Ne.symm e)]
      have := of_decide_eq_true h
      exact decide_eq_false (by omega)
theorem lexI_tr : ∀ x y z : List Int, lexI y x = false → lexI z y = false → lexI z x = false
  | [], _, [], _, _ => rfl
  | [], [], _ :: _, _, _ => rfl
  | [], _ :: _, _ :: _, _, _ => rfl
  | _ :: _, [], _, h, _ => by cases h
  | _ :: _, _ :: _, [], _, h => by cases h
  | a :: as, b :: bs, c :: cs, h1, h2 => by
    rw [lexI_cons] at h1 h2 ⊢
    by_cases e1 : b = a
    · rw [if_pos e1] at h1
      by_cases e2 : c = b
      · rw [if_pos e2] at h2
        rw [if_pos (e2.trans e1)]
        exact lexI_tr as bs cs h1 h2
      · rw [if_neg e2] at h2
        have := of_decide_eq_false h2
        rw [if_neg (by omega)]
        exact decide_eq_false (by omega)
    · rw [if_neg e1] at h1
      have q1 := of_decide_eq_false h1
      by_cases e2 : c = b
      · rw [if_neg (by omega)]
        exact decide_eq_false (by omega)
      · rw [if_neg e2] at h2
        have q2 := of_decide_eq_false h2
        rw [if_neg (by omega)]
        exact decide_eq_false (by omega)
theorem swo {α : Type} (k : α → List Int) : SrtO.Swo fun v u => lexI (k v) (k u) := ⟨fun x y => lexI_asym _ _, fun x y z => lexI_tr _ _ _⟩
/-- .. where one of them ends the answer is fin -/
def lexF (fin : Bool) : List Int → List Int → Bool
  | a :: as, b :: bs => if a = b then lexF fin as bs else decide (a < b)
  | _, _ => fin
theorem lexF_eq : ∀ (x y : List Int), lexF (decide (x.length < y.length)) x y = lexI x y
  | [], [] => rfl
  | [], _ :: _ => by show decide (0 < _ + 1) = true; exact decide_eq_true (Nat.succ_pos _)
  | _ :: _, [] => by show decide (_ + 1 < 0) = false; exact decide_eq_false (Nat.not_lt_zero _)
  | a :: as, b :: bs => by
    have ih := lexF_eq as bs
    rw [lexI_cons, ← ih]
    show (if a = b then lexF (decide (as.length + 1 < bs.length + 1)) as bs else decide (a < b)) = _
    have : decide (as.length + 1 < bs.length + 1) = decide (as.length < bs.length) := by
      by_cases h : as.length < bs.length
      · rw [decide_eq_true h, decide_eq_true (by omega)]
      · rw [decide_eq_false h, decide_eq_false (by omega)]
    rw [this]
/-- the word that stands for 0, the one for 1 -/
def kd (n : Int) : Str := if n = 0 then "fork" else "row"
theorem kd0 : kd 0 = "fork" := rfl
theorem kd1 : kd 1 = "row" := rfl
def Wd (n : Int) : Prop := n = 0 ∨ n = 1
theorem kd_eq {n m : Int} (h1 : Wd n) (h2 : Wd m) : (kd n == kd m) = decide (n = m) := by
  rcases h1 with rfl | rfl <;> rcases h2 with rfl | rfl <;> decide +kernel
theorem kd_lt {n m : Int} (h1 : Wd n) (h2 : Wd m) : decide ((kd n).cps.toList < (kd m).cps.toList) = decide (n < m) := by
  rcases h1 with rfl | rfl <;> rcases h2 with rfl | rfl <;> decide +kernel
section
variable {prog : Program} {w : World} {A : Around} {E : Value → Shared → Prop} {s : Shared}
/-- at v a tuple of a word and ints -/
def IsPl (h : Heap) (v : Value) (p : List Int) : Prop := ∃ a o t us n n0 ns, v = .ref a ∧ h.get? a = some o ∧ o.cls = .type "tuple" ∧ o.data = .seq (Value.str (kd n0) t :: us).toArray n ∧ p = n0 :: ns ∧ Wd n0 ∧ Vals (ns.map V.int) us
theorem IsPl.keeps {h h' : Heap} {v : Value} {p : List Int} (x : IsPl h v p) (k : ∀ b o, h.get? b = some o → o.cls = .type "tuple" → h'.get? b = some o) : IsPl h' v p := by
  obtain ⟨a, o, t, us, n, n0, ns, e, ho, hc, hd⟩ := x
  exact ⟨a, o, t, us, n, n0, ns, e, k _ _ ho hc, hc, hd⟩
theorem lex_go {b fin : Bool} {Q : Bool → Shared → Prop} : ∀ (ns ms : List Int) (us vs : List Value) (i : Nat), Vals (ns.map V.int) us → Vals (ms.map V.int) vs → Q (lexF fin ns ms) s → PySem.W.KatLex prog w A b fin Q (us.zip vs) i s
  | [], _, _, _, i, .nil, _, h => PySem.W.kat_nil (i := i) h
  | _ :: _, [], _, _, i, .cons _ _, .nil, h => PySem.W.kat_nil (i := i) h
  | n :: ns, m :: ms, _, _, i, .cons r1 q1, .cons r2 q2, h => by
    obtain ⟨t1, rfl⟩ := r1
    obtain ⟨t2, rfl⟩ := r2
    have h : Q (if n = m then lexF fin ns ms else decide (n < m)) s := h
    refine PySem.W.kat_cons (SeqAt.EqAt.int_int n t1 m t2 prog w _ _ ?_)
    refine PySem.W.kat_go (fun e1 => ?_) (fun e1 => ?_)
    · have ex : n = m := by simpa using e1
      rw [if_pos ex] at h
      exact PySem.W.kat_yes (lex_go ns ms _ _ (i + 1) q1 q2 h)
    · have ex : ¬ n = m := by simpa using e1
      rw [if_neg ex] at h
      exact PySem.W.kat_no (TS.oneLt_ints _ h)
theorem pl_cmp {vs : List Value} {k : Value → List Int} (hp : ∀ v ∈ vs, IsPl s.heap v (k v)) : SrtO.Cmp prog w A s (tuples' true) (fun p => p.1 ∈ vs) (SrtO.lt2 fun v u => lexI (k v) (k u)) := by
  intro p q hm hm'
  have h1 := hp _ hm
  have h2 := hp _ hm'
  show wpAny (model prog w) A (keyLt' (tuples' true) p.1 q.1) (fun r s' => s' = s ∧ r = lexI (k p.1) (k q.1)) (fun _ _ => False) s
  obtain ⟨a, o, t, us, n, n0, ns, e, ho, hc, hd, ek, w1, r1⟩ := h1
  obtain ⟨a', o', t', us', n', m0, ms, e', ho', hc', hd', ek', w2, r2⟩ := h2
  rw [ek, ek', e, e']
  refine PySem.W.kat_lt ho hd ho' hd' ?_
  have l1 := r1.length
  have l2 := r2.length
  rw [List.length_map] at l1 l2
  have fin : decide ((Value.str (kd n0) t :: us).toArray.size < (Value.str (kd m0) t' :: us').toArray.size) = decide (ns.length < ms.length) := by
    simp only [List.size_toArray, List.length_cons]
    by_cases h : ns.length < ms.length
    · rw [decide_eq_true h, decide_eq_true (by omega)]
    · rw [decide_eq_false h, decide_eq_false (by omega)]
  rw [fin]
  show PySem.W.KatLex prog w A true _ _ ((Value.str (kd n0) t, Value.str (kd m0) t') :: us.zip us') 0 s
  refine PySem.W.kat_cons (SeqAt.EqAt.str_str (kd n0) t (kd m0) t' prog w _ _ ?_)
  rw [kd_eq w1 w2]
  refine PySem.W.kat_go (fun e1 => ?_) (fun e1 => ?_)
  · have ex : n0 = m0 := of_decide_eq_true e1
    refine PySem.W.kat_yes (lex_go ns ms _ _ _ r1 r2 ⟨rfl, ?_⟩)
    rw [lexF_eq, lexI_cons, if_pos ex]
  · have ex : ¬ n0 = m0 := of_decide_eq_false e1
    refine PySem.W.kat_no (oneLt_str ⟨rfl, ?_⟩)
    rw [kd_lt w1 w2, lexI_cons, if_neg ex]
theorem firsts_of {h : Heap} : ∀ {vs : List Value}, (∀ v ∈ vs, ∃ p, IsPl h v p) → ∃ fs : List Value, PySem.W.KatTups h vs fs ∧ fs.length = vs.length ∧ ∀ f ∈ fs, ∃ x t, f = Value.str x t
  | [], _ => ⟨[], PySem.W.KatTups.nil, rfl, fun _ hm => by simp at hm⟩
  | v :: vs, hp => by
    obtain ⟨fs, h1, h2, h3⟩ := firsts_of (vs := vs) fun v' hm => hp v' (List.mem_cons_of_mem _ hm)
    obtain ⟨p, a, o, t, us, n, n0, ns, e, ho, hc, hd, _⟩ := hp v (List.mem_cons_self ..)
    subst e
    refine ⟨.str (kd n0) t :: fs, PySem.W.KatTups.cons ho hc hd rfl h1, by rw [List.length_cons, List.length_cons, h2], fun f hm => ?_⟩
    rcases List.mem_cons.mp hm with rfl | hm
    · exact ⟨_, t, rfl⟩
    · exact h3 f hm
theorem sortable {a : Addr} {vs : List Value} {k : Value → List Int} (h0 : 0 < vs.length) (hp : ∀ v ∈ vs, IsPl s.heap v (k v)) (ha : ∀ o, s.heap.get? a = some o → o.cls ≠ .type "tuple") : SrtO.SortableO prog w A s a vs fun v u => lexI (k v) (k u) := by
  intro h' keep
  have hp' : ∀ v ∈ vs, IsPl h' v (k v) := fun v hm => (hp v hm).keeps fun b o e c => keep b o (fun z => by subst z; exact ha o e c) e
  obtain ⟨fs, h1, h2, h3⟩ := firsts_of fun v hm => ⟨_, hp' v hm⟩
  refine ⟨tuples' true, fun Q E hq => ?_, pl_cmp hp'⟩
  refine PySem.W.kat_kind (T := .type "str") h1 (by omega) (fun f hm => ?_) (by rfl) ?_
  · obtain ⟨x, t, rfl⟩ := h3 f hm
    exact PySem.W.Looks.now
  · have e : (Value.type "str" != Value.type "tuple") = true := by first | decide +kernel | rfl | decide
    rw [e]
    exact hq
theorem sorted_pl {l : Addr} {vs : List Value} {k : Value → List Int} {Q : Value → Shared → Prop} (hl : s.heap.IsList l vs.toArray) (hz : vs.length ≤ sizeLine) (hp : ∀ v ∈ vs, IsPl s.heap v (k v))
    (h : ∀ (h' : Heap) (d : Addr) (out : List Value), SrtO.Srtd (fun v u => lexI (k v) (k u)) out → SrtO.Stb (fun v u => lexI (k v) (k u)) out vs → (∀ b o, s.heap.get? b = some o → h'.get? b = some o) → s.heap.objs.size ≤ d → (∃ n, h'.get? d = some (seqObj "list" out.toArray n)) → Q (.ref d) { s with heap := h' }) :
    wpAny (model prog w) A (call (.builtin "sorted") [.ref l]) Q E s := by
  refine SrtO.sorted_ord (swo k) hl hz (fun h2 h₁ a ha kk => ?_) fun out hs hb => ?_
  · refine sortable (s := { s with heap := h₁ }) (by omega) (fun v hm => (hp v hm).keeps fun b o e _ => (kk b o e).2) fun o e => ?_
    have e' : some o = some (seqObj "list" vs.toArray 0) := e.symm.trans ha
    cases e'
    intro c
    exact absurd (Value.type.inj c) (by decide)
  · exact h _ _ out hs hb (fun b o e => sortedAll_old e) (Nat.le_succ _) (sortedAll_at s.heap vs out.toArray)
end
end Pl
namespace L2
open PySem PySem.Spec PyProof.Rows
/-- at x a tuple of a word and ints, in the heap -/
def PlV (H : Hp) (x : V) (p : List Int) : Prop := ∃ t n0 ns, x = V.ref t ∧ H t = some (.tup (.str (Pl.kd n0) :: ns.map V.int)) ∧ p = n0 :: ns ∧ Pl.Wd n0
/-- sorted(xs), xs a list of such tuples -/
def rSortedPl (K : PySem.W.Frag) : List V → Hp → VK → Prop := fun vs H Q => ∃ (a : Addr) (xs : List V) (k : V → List Int), vs = [V.ref a] ∧ SqL K H a xs ∧ (∀ x ∈ xs, PlV H x (k x)) ∧
  ∀ ys p, SrtO.Srtd (fun x y => Pl.lexI (k x) (k y)) ys → SrtO.Stb (fun x y => Pl.lexI (k x) (k y)) ys xs → H p = none → Q (.ref p) (upd H p (.lst ys))
section
variable {X : Cx}
theorem cr_sortedPl : CallR X (.builtin "sorted") (rSortedPl X.K) := by
  intro pins s σ H vs us Q I r h
  obtain ⟨a, xs, k, rfl, hs, hx, q⟩ := h
  obtain ⟨its, rv, hl, hz⟩ := I.list hs
  obtain ⟨u, rfl, ru⟩ := vals1 r
  obtain rfl : u = Value.ref a := ru
  obtain ⟨e1, e2⟩ := refs_back rv fun x m => by
    obtain ⟨t, _, _, e, _⟩ := hx x m
    exact ⟨t, e⟩
  refine Pl.sorted_pl (k := fun u => k (backV u)) hl.isList (by rw [← rv.length]; exact hz) (fun v hv => ?_) fun h' d out h1 h2 kp hd hn => ?_
  · obtain ⟨t, rfl⟩ := e2 v hv
    have hm : V.ref t ∈ xs := by rw [e1]; exact List.mem_map.mpr ⟨_, hv, rfl⟩
    obtain ⟨t', n0, ns, e, ht, ek, w0⟩ := hx _ hm
    cases e
    obtain ⟨_, its2, r2, o, ho, hc, n, hd⟩ := I.hok _ _ ht
    cases r2 with
    | cons ri rj =>
      obtain ⟨t1, rfl⟩ := ri
      exact ⟨t, o, t1, _, n, n0, ns, rfl, ho, hc, hd, ek, w0, rj⟩
  · have h3 : ∀ u ∈ out, ∃ a, u = Value.ref a := fun u hu => e2 u (h2.perm.mem_iff.mp hu)
    obtain ⟨n, hn⟩ := hn
    have hb : SrtO.Stb (fun x y => Pl.lexI (k x) (k y)) (out.map backV) xs := by
      rw [e1]
      exact SrtO.Stb.map (Pl.swo k) backV h2
    refine ⟨.ref d, upd H d (.lst (out.map backV)), I.laid (t' := s.toks) kp hd ⟨?_, out, n, vals_back h3, hn⟩, rfl, q _ d (SrtO.srtd_map h1) hb (I.hok.fresh hd)⟩
    rw [hb.len]
    exact hz
end
end L2

set_option Elab.async false
set_option linter.all false
set_option maxRecDepth 100000
set_option maxHeartbeats 4000000
namespace L2
open PySem PySem.Spec PyProof.Rows
/-- x - j, x an int or a bool -/
def rSubA : R2 := fun x y H Q => (∃ i j, x = .int i ∧ y = .int j ∧ Q (.int (i - j)) H) ∨ ∃ b j, x = .bl b ∧ y = .int j ∧ Q (.int ((if b = true then (1 : Int) else 0) - j)) H
theorem op_subA {X : Cx} : OpR X (binaryOp .Sub) rSubA := by
  intro pins s σ H x y v u Q I rx ry h
  rcases h with ⟨i, j, rfl, rfl, q⟩ | ⟨b, j, rfl, rfl, q⟩
  · exact op_sub pins s σ H _ _ v u Q I rx ry ⟨i, j, rfl, rfl, q⟩
  · cases rx
    obtain ⟨t, rfl⟩ := ry
    exact PySem.IntBool.sub_bool_int ⟨.int _, H, I.tok _, ⟨_, rfl⟩, q⟩
/-- t * 1 is t -/
theorem tuple_mul1 (l : Addr) (items : Array Value) (n : Nat) (dd : Option Addr) (sl : Array (Option Value)) (u : Tok) :
    Meets (Builtin.«tuple.__mul__» ⟨[.ref l, .int 1 u], []⟩) (fun _ R s => s.heap.get? l = some { cls := .type "tuple", dict := dd, data := .seq items n, slots := sl } ∧
      R (.ok (.ret (Value.ref l))) s) :=
  .of_wp fun prog w A R s h => by
    obtain ⟨hp, g, d, tk, os⟩ := s
    obtain ⟨hl, h⟩ := h
    have f1 := AutoSeq1.idx_int
    have c0 : (decide ((1 : Int) < -(2 ^ 63)) || decide ((1 : Int) ≥ 2 ^ 63)) = false := by decide
    have c1 : (items.isEmpty || ((1 : Int) == 1)) = true := by rw [Bool.or_eq_true]; exact .inr rfl
    wp_walk using wpAny_loadPart' hl
    repeat (first
      | (refine wpAny_ite_false (decide_eq_false (by rw [c0]; exact Bool.false_ne_true)) ?_; wp_walk using wpAny_loadPart' hl)
      | (refine wpAny_ite_true (decide_eq_true c1) ?_; wp_walk using wpAny_loadPart' hl))
    exact ⟨_, rfl, h⟩
def rRepA (K : PySem.W.Frag) : R2 := fun x y H Q => ∃ l k xs, x = .ref l ∧ y = .int k ∧ SqT K H l xs ∧ xs ≠ [] ∧ 1 ≤ k ∧ k ≤ 1000 ∧ xs.length ≤ 1000 ∧
  (k = 1 → Q (.ref l) H) ∧ (2 ≤ k → ∀ p, H p = none → Q (.ref p) (upd H p (.tup (List.replicate k.toNat xs).flatten)))
theorem op_repA {X : Cx} : OpR X (binaryOp .Mult) (rRepA X.K) := by
  intro pins s σ H x y v u Q I rx ry h
  obtain ⟨l, k, xs, rfl, rfl, hT, hne, h1, h2, hz, q1, q2⟩ := h
  by_cases h3 : 2 ≤ k
  · exact op_repT pins s σ H _ _ v u Q I rx ry ⟨l, k, xs, rfl, rfl, hT, hne, h3, h2, hz, q2 h3⟩
  · obtain rfl : k = 1 := by omega
    cases rx
    obtain ⟨t, rfl⟩ := ry
    obtain ⟨its, r, ⟨⟨cls, dd, data, sl⟩, ho, hc, n, hd⟩, hs⟩ := I.tuple hT
    simp only at hc hd
    subst hc hd
    exact wpAny_binaryOp_repeat_ref (T := "tuple") (U := "int") (by decide) ⟨_, ho, rfl⟩ (fun s' => typeIs_int s' 1 t) noFill_tuple_mul F.fills_int_mul F.slot_int_rmul repeat_tuple F.slot_int_index.lookup
      (call_meets F.slot_int_rmul (typeIs_int s 1 t) F.entry_int_rmul (F.args_int_rmul_2 _ _) (int_rmul_tuple 1 t l its.toArray n dd sl)
        ⟨ho, rfl, ⟨_, ho, rfl⟩, call_meets F.slot_tuple_mul ⟨_, ho, rfl⟩ F.entry_tuple_mul (F.args_tuple_mul_2 _ _) (tuple_mul1 l its.toArray n dd sl t) ⟨ho, ⟨.ref l, H, I, rfl, q1 rfl⟩⟩⟩)
/-- C(e, ..) where what is raised is wished for at the caller's slots -/
def tMakeS (C : Addr) (sp : Sp) (dvs : List V) (E : St → XK) (t : TA) : TE := fun σ H Q => t σ H fun vs H1 => ∀ x dx, H1 x = none → H1 dx = none → dx ≠ x →
  sp (.ref x :: (vs ++ dvs)) (upd (upd H1 dx (.own x)) x (.ins C dx [])) (fun v H2 => v = .non ∧ Q (.ref x) H2) (E σ)
section
variable {X : Cx} {CX : CXT} {k : Nat} {f C : Addr} {fd : FuncData} {ps : List Str} {sp : Sp} {dvs : List V} {ds : List Value} {E : St → XK} {x m : Str} {p pos apos : Pos} {e o : Expr} {es : List Expr} {ta : TE} {t : TA}
theorem pe_makeS (M : Mk X.K C f) (F : FnOk X.prog X.w X.K X.mg X.base CX k f fd ps sp) (hr : Room (k + 1) X.A) (hg : Gl X x) (hm : X.mg x = some (.ref C)) (hb : Binds X.K fd ps ds) (hd : Vals dvs ds) (hx : ∀ σ, PassesAt CX X σ (E σ))
    (ha : PA X (e :: es) t) (hdb : (x == ("__debug__" : Str)) = false := by decide) (he : starEach (e :: es) X.env = (false, eval e X.env) :: starEach es X.env := by rfl) (hpl : (backTo pos (starEach es X.env)).any (·.1) = false := by rfl) :
    PE X (.Call (.Name x p) (e :: es) [] pos) (tMakeS C sp dvs E t) := by
  refine ⟨fun pins s0 σ H0 Q I0 h0 => ?_⟩
  refine wpAny_Call_Name_kw (ld_glob I0 hg hm ?_ hdb)
  refine PySem.W.callWith_K (h₀ := X.base) I0.ok.mod.kin M.kp (thn (ha.run pos pins s0 σ H0 _ I0 h0) fun us s ⟨vs, H, I, r, h⟩ => ⟨I.kIn, ?_⟩) he hpl
  have hq := h (s.heap.objs.size + 1) s.heap.objs.size (I.hok.fresh (Nat.le_succ _)) (I.hok.fresh (Nat.le_refl _)) (Nat.ne_of_lt (Nat.lt_succ_self _))
  have I2 := Inv.made (C := C) I
  have r2 : Vals (V.ref (s.heap.objs.size + 1) :: (vs ++ dvs)) (Value.ref (s.heap.objs.size + 1) :: (us ++ ds)) := .cons rfl (r.append hd)
  have hl : (Value.ref (s.heap.objs.size + 1) :: us ++ ds).length = ps.length := by
    have e := r2.length
    rw [F.len _ _ _ _ hq] at e
    exact e.symm
  refine wpAny_call (make_map (f := f) I.kIn M.makes M.init (beq_iff_eq.mp M.fn) (codeAny_mono (F.run _ X.stack _ _ ⟨Value.ref (s.heap.objs.size + 1) :: us, []⟩ (Value.ref (s.heap.objs.size + 1) :: (us ++ ds)) _ _ (E σ) (hr.make C us [])
    (I2.env0.make C us []) (hb _ (Value.ref (s.heap.objs.size + 1) :: us) I2.kIn hl) r2 hq) fun r s' hq' => ?_))
  cases r with
  | error e => exact hx σ pins _ _ e s' I2 hq'
  | ok fl =>
    cases fl with
    | ret u =>
      obtain ⟨v, H', I3, rv, ev, q3⟩ := I2.after hq'
      subst ev
      exact ⟨rv, ⟨V.ref (s.heap.objs.size + 1), H', I3, rfl, q3⟩⟩
    | next => exact False.elim hq'
    | brk => exact False.elim hq'
    | cont => exact False.elim hq'
end
end L2
/-! ### Hc -/
namespace Hc
open PySem L2
theorem line_lt {n : Nat} (h : n ≤ 100000) : n < sizeLine := by rw [sizeLine_eq]; omega
theorem line_le {n : Nat} (h : n ≤ 100000) : n ≤ sizeLine := by rw [sizeLine_eq]; omega
theorem take_more {α : Type} : ∀ {l : List α} {i : Nat} {x : α}, l[i]? = some x → l.take (i + 1) = l.take i ++ [x]
  | [], i, x, h => by simp at h
  | a :: l, 0, x, h => by
    have e : a = x := Option.some.inj h
    subst e
    rfl
  | a :: l, i + 1, x, h => by
    have ih := take_more (l := l) (i := i) (x := x) h
    show a :: l.take (i + 1) = a :: l.take i ++ [x]
    rw [ih]
    rfl
/-- [p(x) for x in t]: the list of the answers -/
theorem all_tup {K : PySem.W.Frag} {H : Hp} {h a A : Addr} {xs : List V} {ds : List D} {j : Nat} {te : TE} {σ : St} {vs : List Nat} {Qd : Hp → Prop}
    (e : H a = some (.tup xs)) (z : xs.length ≤ 100000) (ra : RpA H h xs ds) (p : D → Bool) (hA : H A = none)
    (hw : ∀ x, wipe ((wipe σ vs).set j (some x)) vs = wipe σ vs)
    (hs : ∀ x d H' (Q : VK), d ∈ ds → Same H H' → Rp H' h x d → (∀ H4, Same H' H4 → Q (.bl (p d)) H4) → te ((wipe σ vs).set j (some x)) H' Q)
    (hd : ∀ H', Same H H' → SqL K H' A ((ds.map p).map V.bl) → Qd H') :
    ∃ W : Nat → Nat → Hp → Prop, (∃ m, W 0 m (upd H A (.lst []))) ∧ ∀ i m H, W i m H →
      ((Itt K a).stop i H ∧ Qd H) ∨ ((Itt K a).go i H ∧ ∃ Nx : Hp → Prop, (∀ H', Nx H' → ∃ m', m' < m ∧ W (i + 1) m' H') ∧ ∀ x H', (Itt K a).yld i H x H' → (gName j) x (wipe σ vs) H' fun σ2 H2 => wipe σ2 vs = wipe σ vs ∧ tYes σ2 H2 fun b H3 =>
        if b = true then te σ2 H3 fun y H4 => ∃ acc, H4 A = some (.lst acc) ∧ acc.length < sizeLine ∧ Nx (upd H4 A (.lst (acc ++ [y]))) else Nx H3) := by
  have hl := ra.len
  refine lc_tup (K := K) (xs := xs) (fun i H' => Same H (fun b => if b = A then none else H' b) ∧ H' A = some (.lst (((ds.take i).map p).map V.bl)))
    ⟨fun b o q => ?_, upd_same⟩ (fun i H' hi ⟨s, _⟩ => ?_) ?_ ?_
  · have n := ne_of_none q hA
    show (if b = A then none else upd H A _ b) = _
    rw [if_neg n, upd_ne n]; exact q
  · have q := s _ _ e
    have n := ne_of_none e hA
    simp only [if_neg n] at q
    exact SqT.of q
  · intro i x H' hx ⟨s, hH⟩
    have sm : Same H H' := fun b o q => by
      have r := s b o q
      simp only [if_neg (ne_of_none q hA)] at r
      exact r
    obtain ⟨d, hd1, rp⟩ := ra.get hx
    have hi : i < xs.length := (List.getElem?_eq_some_iff.mp hx).1
    refine ⟨hw x, ?_⟩
    unfold tYes
    show (if true = true then te _ _ _ else _)
    rw [if_pos rfl]
    refine hs x d H' _ (List.mem_of_getElem? hd1) sm (rp.same sm) fun H4 s4 => ⟨_, s4 _ _ hH, ?_, ?_, ?_⟩
    · rw [List.length_map, List.length_map, List.length_take]
      exact line_lt (by omega)
    · intro b o q
      have n := ne_of_none q hA
      show (if b = A then none else upd H4 A _ b) = _
      rw [if_neg n, upd_ne n]
      exact s4 _ _ (sm _ _ q)
    · rw [upd_same, take_more hd1, List.map_append, List.map_append]; rfl
  · intro H' ⟨s, hH⟩
    have sm : Same H H' := fun b o q => by
      have r := s b o q
      simp only [if_neg (ne_of_none q hA)] at r
      exact r
    rw [hl, List.take_length] at hH
    exact hd H' sm (SqL.of hH)
/-- [x for x in t if not p(x)]: as many as are none -/
theorem none_tup {K : PySem.W.Frag} {H : Hp} {h a A : Addr} {xs : List V} {ds : List D} {j : Nat} {te : TE} {tt : TT} {σ : St} {vs : List Nat} {Qd : Hp → Prop}
    (e : H a = some (.tup xs)) (z : xs.length ≤ 100000) (ra : RpA H h xs ds) (p : D → Bool) (hA : H A = none)
    (hw : ∀ x, wipe ((wipe σ vs).set j (some x)) vs = wipe σ vs)
    (hs : ∀ x d H' (Q : Bool → Hp → Prop), d ∈ ds → Same H H' → Rp H' h x d → (∀ H4, Same H' H4 → Q (!p d) H4) → tt ((wipe σ vs).set j (some x)) H' Q)
    (ht : ∀ x H' (Q : VK), Same H H' → (∀ y, Q y H') → te ((wipe σ vs).set j (some x)) H' Q)
    (hd : ∀ H' acc, Same H H' → SqL K H' A acc → acc.length ≤ 100000 → (acc.length = 0 ↔ ds.all p = true) → Qd H') :
    ∃ W : Nat → Nat → Hp → Prop, (∃ m, W 0 m (upd H A (.lst []))) ∧ ∀ i m H, W i m H →
      ((Itt K a).stop i H ∧ Qd H) ∨ ((Itt K a).go i H ∧ ∃ Nx : Hp → Prop, (∀ H', Nx H' → ∃ m', m' < m ∧ W (i + 1) m' H') ∧ ∀ x H', (Itt K a).yld i H x H' → (gName j) x (wipe σ vs) H' fun σ2 H2 => wipe σ2 vs = wipe σ vs ∧ tt σ2 H2 fun b H3 =>
        if b = true then te σ2 H3 fun y H4 => ∃ acc, H4 A = some (.lst acc) ∧ acc.length < sizeLine ∧ Nx (upd H4 A (.lst (acc ++ [y]))) else Nx H3) := by
  have hl := ra.len
  refine lc_tup (K := K) (xs := xs) (fun i H' => Same H (fun b => if b = A then none else H' b) ∧ ∃ acc, H' A = some (.lst acc) ∧ acc.length ≤ i ∧ (acc.length = 0 ↔ (ds.take i).all p = true))
    ⟨fun b o q => ?_, [], upd_same, Nat.le_refl _, by simp⟩ (fun i H' hi ⟨s, _⟩ => ?_) ?_ ?_
  · have n := ne_of_none q hA
    show (if b = A then none else upd H A _ b) = _
    rw [if_neg n, upd_ne n]; exact q
  · have q := s _ _ e
    have n := ne_of_none e hA
    simp only [if_neg n] at q
    exact SqT.of q
  · intro i x H' hx ⟨s, acc, hH, h1, h2⟩
    have sm : Same H H' := fun b o q => by
      have r := s b o q
      simp only [if_neg (ne_of_none q hA)] at r
      exact r
    obtain ⟨d, hd1, rp⟩ := ra.get hx
    have hi : i < xs.length := (List.getElem?_eq_some_iff.mp hx).1
    refine ⟨hw x, hs x d H' _ (List.mem_of_getElem? hd1) sm (rp.same sm) fun H4 s4 => ?_⟩
    cases hp : p d with
    | false =>
      rw [if_pos (by decide)]
      refine ht x H4 _ (fun b o q => s4 _ _ (sm _ _ q)) fun y => ⟨_, s4 _ _ hH, line_lt (by omega), fun b o q => ?_, _, upd_same, ?_, ?_⟩
      · have n := ne_of_none q hA
        show (if b = A then none else upd H4 A _ b) = _
        rw [if_neg n, upd_ne n]
        exact s4 _ _ (sm _ _ q)
      · rw [List.length_append, List.length_singleton]; omega
      · rw [List.length_append, List.length_singleton, take_more hd1, List.all_append]
        simp [hp]
    | true =>
      rw [if_neg (by decide)]
      refine ⟨fun b o q => ?_, acc, s4 _ _ hH, by omega, ?_⟩
      · have n := ne_of_none q hA
        show (if b = A then none else H4 b) = _
        rw [if_neg n]
        exact s4 _ _ (sm _ _ q)
      · rw [take_more hd1, List.all_append, h2]
        simp [hp]
  · intro H' ⟨s, acc, hH, h1, h2⟩
    have sm : Same H H' := fun b o q => by
      have r := s b o q
      simp only [if_neg (ne_of_none q hA)] at r
      exact r
    rw [hl, List.take_length] at h2
    exact hd H' acc sm (SqL.of hH) (by omega) h2
end Hc

set_option Elab.async false
set_option linter.all false
set_option maxRecDepth 100000
set_option maxHeartbeats 4000000
set_option autoImplicit false
namespace PySem
open Sem (wp)
open AutoSeq1 (wpAny_loadPart')
theorem meets_enumerate_newT (l : Addr) (items : Array Value) (n : Nat) (dct : Option Addr) (sl : Array (Option Value)) :
    Meets (Builtin.«enumerate.__new__» ⟨[.type "enumerate", .ref l], []⟩) (fun _ R s => s.heap.get? l = some { cls := .type "tuple", dict := dct, data := .seq items n, slots := sl } ∧
      R (.ok (.ret (.ref (s.heap.push { cls := .type "tuple_iterator", data := .fields #[.ref l, .int 0 0] }).objs.size)))
        { s with heap := (s.heap.push { cls := .type "tuple_iterator", data := .fields #[.ref l, .int 0 0] }).push { cls := .type "enumerate", data := .fields #[.none, .bool false, .ref s.heap.objs.size, rawInt 0, .none, .none] } }) :=
  .of_wp fun prog w A R s h => by
    obtain ⟨hp, g, d, tk, os⟩ := s; obtain ⟨hl, h⟩ := h
    have hsub := sub_enumerate
    have hL : Heap.IsTuple (Shared.heap ⟨hp, g, d, tk, os⟩) l items := ⟨_, hl, rfl, n, rfl⟩
    wp_walk using wpAny_loadPart' hl
    refine wpAny_stack_any fun st => wpAny_pure ?_
    split
    · rename_i c _ _ _ _ _
      cases (c == Value.type "enumerate")
      · wp_walk using wpAny_loadPart' hl, wpAny_pyIter_tuple hL
        exact ⟨_, rfl, h⟩
      · wp_walk using wpAny_loadPart' hl, wpAny_pyIter_tuple hL
        exact ⟨_, rfl, h⟩
    · wp_walk using wpAny_loadPart' hl, wpAny_pyIter_tuple hL
      exact ⟨_, rfl, h⟩
section
variable {prog : Program} {w : World} {A : Around} {E : Value → Shared → Prop} {s : Shared}
theorem call_enumerate_tuple {l : Addr} {items : Array Value} {Q : Value → Shared → Prop} (hL : s.heap.IsTuple l items)
    (h : ∀ h', IsEnum h' (s.heap.objs.size + 1) s.heap.objs.size 0 .none → h'.IsTupleIter s.heap.objs.size l 0 → h'.objs.size = s.heap.objs.size + 2 →
      (∀ b o, s.heap.get? b = some o → h'.get? b = some o) → Q (.ref (s.heap.objs.size + 1)) { s with heap := h' }) :
    wpAny (model prog w) A (call (.type "enumerate") [.ref l]) Q E s := by
  obtain ⟨⟨c, dct, dt, sl⟩, hl, hc, n, hd⟩ := hL
  replace hc : c = .type "tuple" := hc
  replace hd : dt = .seq items n := hd
  subst hc hd
  refine callType_new F.called_enumerate (by decide) (F.typeCall_enumerate_1 _) (F.newCall_enumerate_1 _) (fun obj => F.args_object_init_2 obj _) F.entry_enumerate_new
    (meets_enumerate_newT l items n dct sl) ⟨hl, ?_⟩
  have hz : (s.heap.push { cls := .type "tuple_iterator", data := .fields #[.ref l, .int 0 0] }).objs.size = s.heap.objs.size + 1 := Heap.size_push ..
  show _ ∧ _
  rw [hz]
  have he : IsEnum ((s.heap.push { cls := .type "tuple_iterator", data := .fields #[.ref l, .int 0 0] }).push
      { cls := .type "enumerate", data := .fields #[.none, .bool false, .ref s.heap.objs.size, rawInt 0, .none, .none] }) (s.heap.objs.size + 1) s.heap.objs.size 0 .none := by
    have := Heap.get?_push_size (s.heap.push { cls := .type "tuple_iterator", data := .fields #[.ref l, .int 0 0] })
      (o := { cls := .type "enumerate", data := .fields #[.none, .bool false, .ref s.heap.objs.size, rawInt 0, .none, .none] }) rfl
    rw [hz] at this; exact this
  refine ⟨⟨_, he, rfl⟩, h _ he ⟨_, Heap.get?_push_of_some _ (Heap.get?_push_size _ rfl), rfl, rfl⟩ (by rw [Heap.size_push, hz]) fun b o x => Heap.get?_push_of_some _ (Heap.get?_push_of_some _ x)⟩
theorem wpAny_pyNext_enum_endT {e it l : Addr} {i : Nat} {items : Array Value} {old : Value} {Q : Option Value → Shared → Prop} (hh : A.handled = none)
    (he : IsEnum s.heap e it i old) (hit : s.heap.IsTupleIter it l i) (hl : s.heap.IsTuple l items) (hx : items[i]? = none)
    (hQ : ∀ h', Heap.ExtBut it s.heap h' → Q none { s with heap := h' }) : wpAny (model prog w) A (pyNext (.ref e)) Q E s := by
  have hT : s.TypeIs (.ref e) "enumerate" := ⟨_, he, rfl⟩
  unfold pyNext
  refine wpAny_bind (wpAny_attempt (wpAny_callSpecial?_slot (name := Str.ofString "__next__") hT F.slot_enumerate_next
    (wpAny_call_entry F.slot_enumerate_next hT F.entry_enumerate_next ?_ (F.args_enumerate_next_1 _))))
  show wpAny _ _ (field (.ref e) 2 >>= _) _ _ _
  refine wpAny_bind (wpAny_field he rfl (x := .ref it) rfl ?_)
  refine wpAny_bind (wpAny_nextOf_tuple_end hh hit hl hx fun h' x he' hx' => ?_)
  obtain ⟨o, ho, hc⟩ := hx'
  refine wpAny_bind (wpAny_isInstance (T := "StopIteration") (b := true) ⟨o, ho, hc⟩ isSubtype_stop ?_)
  exact wpAny_pure (hQ _ he')
end
end PySem
namespace L2
open PySem PySem.Spec PyProof.Rows
/-- the tuple at a as it stands at each turn, each item in a new pair with its number -/
def IteT (K : PySem.W.Frag) (a : Addr) : It :=
  ⟨fun i H => ∃ (xs : List V) (x : V), SqT K H a xs ∧ xs[i]? = some x, fun i H v H' => ∃ T x, v = .ref T ∧ H T = none ∧ H' = upd H T (.tup [.int (i : Nat), x]) ∧ ∀ xs, SqT K H a xs → xs[i]? = some x, fun i H => ∃ xs : List V, SqT K H a xs ∧ xs.length ≤ i⟩
theorem turn_enumT {P : Program} {w : World} {K : PySem.W.Frag} {elts : List Expr} {kk : Nat} {tpos : Pos} (a e it : Addr) :
    Turn P w K (.Tuple elts kk tpos) (IteT K a) [e, it] e (fun i h => (∃ old, IsEnum h e it ((i : Nat) : Int) old) ∧ h.IsTupleIter it a i ∧ e ≠ it ∧ a ≠ it ∧ e ≠ a) where
  mem := by simp
  obj := fun i h st b hb => by
    obtain ⟨⟨old, he⟩, ⟨o, ho, hc, hd⟩, _⟩ := st
    have e' : b = e ∨ b = it := by simpa using hb
    rcases e' with z | z
    · rw [z]; exact ⟨_, he, fun v q => nomatch q⟩
    · rw [z]; exact ⟨o, ho, fun v q => by rw [hd] at q; cases q⟩
  keep := fun i h h' st k => let ⟨⟨old, he⟩, hi, hne⟩ := st; ⟨⟨old, k e (by simp) _ he⟩, hi.at fun o q => k it (by simp) o q, hne⟩
  item := by
    intro X hP hw hK hc i pins s σ H E I hf st hg
    subst hP hw hK
    obtain ⟨⟨old, he⟩, hit, hne, hai, hea⟩ := st
    obtain ⟨xs, x, hq, hx⟩ := hg
    obtain ⟨its, rv, p, hz⟩ := I.tuple hq
    obtain ⟨u, hu, ru⟩ := rv.get hx
    have hel : e < s.heap.objs.size := Heap.lt_size he
    have hil : it < s.heap.objs.size := by obtain ⟨_, q, _⟩ := hit; exact Heap.lt_size q
    have hlt : i < its.toArray.size := by
      rw [List.size_toArray]
      exact (List.getElem?_eq_some_iff.mp hu).1
    refine wpAny_pyNext_enum_itemD (Draws.tuple (A := X.A.in1) (I.ok.hd hc) it a hai its.toArray) he ⟨hit, p⟩ hlt hne (by simp [hne, hea]) fun x' h' tk hx' ho st' hT hsz hk => ?_
    obtain ⟨hit', _⟩ := st'
    obtain rfl : x' = u := by
      have q : its[i]? = some x' := by simpa using hx'
      rw [hu] at q
      exact (Option.some.inj q).symm
    refine ⟨_, rfl, wpAny_letOwnedTupleGo_enum (s := { s with heap := h', toks := tk + 1 }) ho fun h'' he' sb => ?_⟩
    have hT2 : h''.get? s.heap.objs.size = some { cls := .type "tuple", data := .seq #[.int i tk, x'] } := (sb.2 _ (Nat.ne_of_gt hel)).trans hT
    have new : ObjOk X.prog X.w (upd H s.heap.objs.size (.tup [.int (i : Nat), x])) h'' s.heap.objs.size (.tup [.int (i : Nat), x]) :=
      ⟨by show 2 ≤ sizeLine; decide, [.int i tk, x'], .cons ⟨_, rfl⟩ (.cons ru .nil), ⟨_, hT2, rfl, _, rfl⟩⟩
    have I1 : Inv X pins σ (upd H s.heap.objs.size (.tup [.int (i : Nat), x])) { s with heap := h'', toks := tk + 1 } :=
      I.turnedNew (ch := [e, it]) (fun b ob hb q => (sb.2 b (fun z => hb (by simp [z]))).trans (hk b ob (fun z => hb (by simp [z])) (fun z => hb (by simp [z])) q)) hf (Nat.le_refl _) new
    refine ⟨.ref s.heap.objs.size, _, I1, rfl, ⟨_, x, rfl, I.hok.fresh (Nat.le_refl _), rfl, fun ys hy => by rw [I.tuple_inj hy hq]; exact hx⟩, ⟨⟨x', ?_⟩, hit'.at fun o q => (sb.2 it (Ne.symm hne)).trans q, hne, hai, hea⟩, fun b hb => ?_⟩
    · have e1 : ((i + 1 : Nat) : Int) = (i : Int) + 1 := by omega
      rw [e1]; exact he'
    · have hb' : b < s.heap.objs.size := by
        have e' : b = e ∨ b = it := by simpa using hb
        rcases e' with z | z
        · rw [z]; exact hel
        · rw [z]; exact hil
      rw [upd_ne (Nat.ne_of_lt hb')]
      exact (hf b hb).1
  done := by
    intro X hP hw hK hc i pins s σ H E I hf st hg
    subst hP hw hK
    obtain ⟨⟨old, he⟩, hit, hne, hai, hea⟩ := st
    obtain ⟨xs, hq, hx⟩ := hg
    obtain ⟨its, rv, p, hz⟩ := I.tuple hq
    obtain ⟨f0, f1, f2, f3, f4, f5⟩ := hf it (by simp)
    have hl := rv.length
    exact wpAny_pyNext_enum_endT (I.ok.hd hc) he hit p (by simp; omega) fun h' eb => ⟨rfl, I.turned (t' := s.toks) (fun b o hb q => eb b o hb q) f0 f1 f3 f4 f5⟩
  self := fun A i s Q E st h => let ⟨⟨_, he⟩, _⟩ := st; wpAny_pyIter_enum he h
def iEnumT (K : PySem.W.Frag) (ta : TA) : TI := fun σ H R => ta σ H fun vs H1 => ∃ a xs, vs = [.ref a] ∧ SqT K H1 a xs ∧ R (IteT K a) H1
theorem pi_enumT {X : Cx} {e : Expr} {ta : TA} {p pos tpos : Pos} {elts : List Expr} {kk : Nat} (hg : Gl X "enumerate") (hm : X.mg "enumerate" = none) (ha : PA X [e] ta) (hs : starEach [e] X.env = [(false, eval e X.env)] := by rfl) :
    PI X (.Tuple elts kk tpos) (.Call (.Name "enumerate" p) [e] [] pos) (iEnumT X.K ta) := by
  refine ⟨fun pins s σ H R I h => ?_⟩
  refine Call_ (ld_blt I hg hm boot_enumerate (PyProof.Rows.callWith_type1 (thn (ha.run pos pins s σ H _ I h) fun us s1 ⟨vs, H1, I1, r1, q1⟩ => ?_) hs rfl))
  obtain ⟨a, xs, ex, hq, q⟩ := q1
  subst ex
  cases r1 with
  | cons r rr =>
    cases rr
    cases r
    obtain ⟨its, rv, p', hz⟩ := I1.tuple hq
    have hal : a < s1.heap.objs.size := by obtain ⟨_, q, _⟩ := p'; exact Heap.lt_size q
    refine call_enumerate_tuple p' fun h' he hit hsz hk => wpAny_pyIter_enum he ?_
    have I2 : Inv X pins σ H1 { s1 with heap := h' } := I1.kept (t' := s1.toks) hk
    refine ⟨s1.heap.objs.size + 1, [s1.heap.objs.size + 1, s1.heap.objs.size], _, _, H1, rfl, I2, turn_enumT a (s1.heap.objs.size + 1) s1.heap.objs.size, ⟨⟨.none, he⟩, hit, Nat.succ_ne_self _, Nat.ne_of_lt hal, Ne.symm (Nat.ne_of_lt (Nat.lt_succ_of_lt hal))⟩, fun b hb => ?_, q⟩
    have e' : b = s1.heap.objs.size + 1 ∨ b = s1.heap.objs.size := by simpa using hb
    have hle : s1.heap.objs.size ≤ b := by
      rcases e' with z | z
      · rw [z]; exact Nat.le_add_right _ _
      · rw [z]; exact Nat.le_refl _
    exact I1.fpOk hle (I1.hok.fresh hle)
end L2

set_option Elab.async false
set_option linter.all false
set_option maxRecDepth 100000
set_option maxHeartbeats 4000000
set_option autoImplicit false
namespace L2
open PySem PySem.Spec PyProof.Rows
section
variable {X : Cx}
theorem mk_endN {pins : List (Addr × Obj)} {σ : St} {H1 H2 : Hp} {Q : XK} {hp hp2 h2 : Heap} {g1 g2 : Array GenState} {d1 d2 : Drawn} {t1 t2 : Nat} {os1 os2 : OsState} {a C : Addr} (T : Raises X (.ref C)) (I1 : Inv X pins σ H1 ⟨hp, g1, d1, t1, os1⟩)
    (ha : hp.objs.size ≤ a) (k : ∀ b o, hp.get? b = some o → hp2.get? b = some o) (un : Un (frs X.stack) [] (upd H1 a (exo a C none)) H2 hp2 h2) (hok : HOk X.prog X.w H2 h2) (ho : os2 = os1) (hb : AllBare g2)
    (e2 : H2 = upd H1 a (exo a C none)) (q : Q (.ref C) none H1) : MkP X pins σ Q (.ref a) ⟨h2, g2, d2, t2, os2⟩ := by
  have ea : H2 a = some (exo a C none) := by rw [e2]; exact upd_same
  obtain ⟨t0, hoe⟩ := exo_at hok ea
  have hn : H1 a = none := I1.hok.fresh ha
  obtain ⟨G, g1', g2'⟩ := restrict h2 fun b => decide (b ≠ a)
  have gk : ∀ b, b ≠ a → G.get? b = h2.get? b := fun b hb => g1' b (decide_eq_true hb)
  have ge : G.get? a = none := g2' a (by simp)
  have nha : ∀ {b : Addr} {o : Obj}, hp.get? b = some o → b ≠ a := fun {b o} z => Nat.ne_of_lt (Nat.lt_of_lt_of_le (Heap.lt_size z) ha)
  have up : ∀ {b : Addr}, b ≠ a → H1 b = none → upd H1 a (exo a C none) b = none := fun {b} hb n => by rw [upd_ne hb]; exact n
  have dn : del H2 a = H1 := by
    funext b
    by_cases z : b = a
    · subst z; rw [del_same, hn]
    · rw [del_ne z, e2, upd_ne z]
  have U : Un (frs X.stack) [] H1 (del H2 a) hp G := {
    keep := fun b o z n hf hx => by
      rw [gk b (nha z)]
      exact un.keep b o (k b o z) (up (nha z) n) hf hx
    slot := fun b o z n hf hx => by
      rw [gk b (nha z)]
      exact un.slot b o (k b o z) (up (nha z) n) hf hx
    free := fun b o z n hx => by
      rw [del_ne (nha z)]
      exact un.free b o (k b o z) (up (nha z) n) hx
    there := fun b o z hx => by
      rw [gk b (nha z)]
      exact un.there b o (k b o z) hx
    tups := fun b xs z => by
      rw [del_ne (ne_of_none z hn)]
      exact un.tups b xs (by rw [upd_ne (ne_of_none z hn)]; exact z)
    frzs := fun b o v z => by
      rw [del_ne (ne_of_none z hn)]
      exact un.frzs b o v (by rw [upd_ne (ne_of_none z hn)]; exact z)
    tbls := fun b ps z => by
      rw [del_ne (ne_of_none z hn)]
      exact un.tbls b ps (by rw [upd_ne (ne_of_none z hn)]; exact z) }
  have hok3 : HOk X.prog X.w (del H2 a) G := fun b o z => by
    have hba : b ≠ a := fun e => by
      rw [e, del_same] at z
      cases z
    rw [del_ne hba] at z
    have noa : ∀ {c : Addr}, H2 c = some (.own b) → c ≠ a := fun {c} hc => at_ne ea hc exo_own
    exact (hok b o z).stay (fun c v hc y => by
        have hca : c ≠ a := by
          rcases hc with hc | hc
          · rw [hc]
            exact hba
          · exact noa hc
        rw [gk c hca]
        exact y)
      (fun c hc => by rw [del_ne (noa hc)]; exact hc) (fun c xs hc => by rw [del_ne (at_ne ea hc exo_tup)]; exact hc)
  have J : Inv X pins σ (del H2 a) ⟨G, g2, d2, t2, os2⟩ := I1.call' (ch := []) ho U hok3 hb (fun b z => absurd z (by simp))
  rw [dn] at J
  refine ⟨a, _, _, ⟨G, g2, d2, t2, os2⟩, _, .ref C, none, rfl, J, fun b o z => ?_, ge, hoe, ⟨rfl, rfl⟩, rfl, rfl, hn, rfl, hb, T, q⟩
  by_cases hba : b = a
  · rw [hba, ge] at z
    cases z
  · exact (gk b hba).symm.trans z
/-- C() of an own exception whose __init__ does nothing -/
def spInitN : Sp := fun vs H Q _ => ∃ a : Addr, vs = [.ref a] ∧ Q .non H
def tMkN (C : Addr) : St → Hp → XK → Prop := fun _ H Q => Q (.ref C) none H
theorem pmk_oexN {CX : CXT} {x : Str} {C fI : Addr} {k : Nat} {fd : FuncData} {ps : List Str} {p pos : Pos} (T : OexC X.K C) (iC : PySem.W.findIn X.K (.ref C) "__init__" = some (some (.ref fI))) (tI : PySem.W.typeIn X.K (.ref fI) = some (.type "function"))
    (F1 : FnOk X.prog X.w X.K X.mg X.base CX k fI fd ps spInitN) (hr : Room (k + 1) X.A) (hb : Binds X.K fd ps []) (hx : Passes CX X (fun _ _ _ => False)) (hg : Gl X x) (hm : X.mg x = some (.ref C))
    (hdb : (x == ("__debug__" : Str)) = false := by decide) :
    PMk X (.Call (.Name x p) [] [] pos) (tMkN C) := by
  intro pins s1 σ H1 Q I1 h
  obtain ⟨nm, q, N, bs, bm, sn, sub, ab, col, dd, k0, k1, k2, k3, k5, hC, hbm⟩ := T.cls
  refine wpAny_Call_Name_kw (ld_glob I1 hg hm ?_ hdb)
  refine PySem.W.callWith_K0 I1.kIn T.kC ?_
  show wpAny _ _ (call (.ref C) []) _ _ _
  obtain ⟨hp, g, dr, tk, os⟩ := s1
  have hsz : hp.objs.size ≤ hp.objs.size + 1 := Nat.le_succ _
  have hn : H1 (hp.objs.size + 1) = none := I1.hok.fresh hsz
  have kk : ∀ b o, hp.get? b = some o → ((hp.push (PySem.W.kdv_tup [])).push (PySem.HandSPX.excO C hp.objs.size)).get? b = some o := fun b o e => Heap.get?_push_of_some _ (Heap.get?_push_of_some _ e)
  have hget : ((hp.push (PySem.W.kdv_tup [])).push (PySem.HandSPX.excO C hp.objs.size)).get? (hp.objs.size + 1) = some (PySem.HandSPX.excO C hp.objs.size) := by heap_get
  have I2 : Inv X pins σ (upd H1 (hp.objs.size + 1) (exo (hp.objs.size + 1) C none)) ⟨(hp.push (PySem.W.kdv_tup [])).push (PySem.HandSPX.excO C hp.objs.size), g, dr, tk, os⟩ :=
    I1.laid (t' := tk) (a := hp.objs.size + 1) (o := exo (hp.objs.size + 1) C none) (h' := (hp.push (PySem.W.kdv_tup [])).push (PySem.HandSPX.excO C hp.objs.size)) kk hsz (exo_ok hget)
  have hq : spInitN [V.ref (hp.objs.size + 1)] (upd H1 (hp.objs.size + 1) (exo (hp.objs.size + 1) C none)) (fun v H2 => v = .non ∧ H2 = upd H1 (hp.objs.size + 1) (exo (hp.objs.size + 1) C none)) (fun _ _ _ => False) := ⟨_, rfl, rfl, rfl⟩
  have r2 : Vals [V.ref (hp.objs.size + 1)] [Value.ref (hp.objs.size + 1)] := .cons rfl .nil
  have hl : ([Value.ref (hp.objs.size + 1)] ++ ([] : List Value)).length = ps.length := by
    rw [← F1.len _ _ _ _ hq]; rfl
  refine wpAny_call (PySem.HandSPX.call_own F.excBase_ValueError (fun Y => PySem.HandSPX.refsVE_contains Y bm hbm) (I1.kIn _ _ hC) (PySem.W.looks_findIn I1.kIn iC) (fun self => PySem.W.bind_fn I1.kIn self tI) (by show 0 ≤ sizeLine; decide)
    (codeAny_mono (F1.run _ X.stack _ _ ⟨[Value.ref (hp.objs.size + 1)], []⟩ [Value.ref (hp.objs.size + 1)] _ _ (fun _ _ _ => False) (hr.make C [] []) (I2.env0.make C [] []) (hb _ [Value.ref (hp.objs.size + 1)] I2.kIn hl) r2 hq) fun r s' hq' => ?_))
  cases r with
  | error er => exact hx pins σ _ _ er s' I2 hq'
  | ok fl =>
    cases fl with
    | ret u =>
      obtain ⟨v, H2, os2, bare2, un2, hok2, rv, ev, e2⟩ := hq'
      subst ev
      obtain ⟨h2, g2, d2, t2, os'⟩ := s'
      exact ⟨rv, mk_endN (raises_own T.exC T.tyC) I1 hsz kk un2 hok2 os2 bare2 e2 h⟩
    | next => exact False.elim hq'
    | brk => exact False.elim hq'
    | cont => exact False.elim hq'
end
end L2

set_option Elab.async false
set_option linter.all false
set_option maxRecDepth 100000
set_option maxHeartbeats 4000000
set_option autoImplicit false
namespace Hc
open PySem L2
def top (i : Nat) : Stmt := PySem.Challenge.pw_hourcards_k42_whole_roots_of_webs.main.body.getD i (.Pass ⟨0, 0, 0, 0⟩)
structure Df (K : PySem.W.Frag) (mg : Str → Option Value) (x : Str) (st : Stmt) (ps : List Str) : Type where
  f : Addr
  fd : FuncData
  F : Fun K x x st f fd
  g : mg x = some (.ref f)
  b : Binds K fd ps []
/-- an own class -/
structure Wf (K : PySem.W.Frag) (mg : Str → Option Value) (x q : Str) (st : Stmt) (ps fs : List Str) : Type where
  C : Addr
  f : Addr
  fd : FuncData
  F : Fun K "__init__" q st f fd
  g : mg x = some (.ref C)
  b : Binds K fd ps []
  mk1 : Mk K C f
  cl : Cls K C
  no : ∀ x ∈ fs, PySem.W.findIn K (.ref C) x = some none
/-- an own error -/
structure Xf (K : PySem.W.Frag) (mg : Str → Option Value) (x q : Str) (st : Stmt) (ps fs : List Str) : Type where
  C : Addr
  f : Addr
  fd : FuncData
  F : Fun K "__init__" q st f fd
  g : mg x = some (.ref C)
  b : Binds K fd ps []
  T : OexC K C
  iC : PySem.W.findIn K (.ref C) "__init__" = some (some (.ref f))
  tI : PySem.W.typeIn K (.ref f) = some (.type "function")
  xf : XfC K C
  te : PySem.W.exmOne K (.ref C) (.ref C) = some true
  no : ∀ x ∈ fs, PySem.W.findIn K (.ref C) x = some none
/-- what isinstance asks of the error class at D, and of its base -/
structure HeF (K : PySem.W.Frag) (mg : Str → Option Value) (D : Addr) : Type where
  C : Addr
  g : mg "HourError" = some (.ref C)
  k1 : PySem.W.kitOne K (.ref D) (.ref C) = some true
  k2 : PySem.W.kitOne K (.ref D) (.type "ValueError") = some true
  ec : ExcC K D
abbrev s_is_integer : Stmt := (top 1)
theorem sc_is_integer : FnScope ["thing"] ["thing"] (defScope s_is_integer) := ⟨rfl, rfl, rfl, by decide +kernel, rfl, by decide +kernel, by decide +kernel⟩
abbrev s_is_between : Stmt := (top 2)
theorem sc_is_between : FnScope ["low", "high", "thing"] ["low", "high", "thing"] (defScope s_is_between) := ⟨rfl, rfl, rfl, by decide +kernel, rfl, by decide +kernel, by decide +kernel⟩
abbrev s_is_tuple : Stmt := (top 3)
theorem sc_is_tuple : FnScope ["many", "thing"] ["many", "thing"] (defScope s_is_tuple) := ⟨rfl, rfl, rfl, by decide +kernel, rfl, by decide +kernel, by decide +kernel⟩
abbrev s_are_integers : Stmt := (top 4)
theorem sc_are_integers : FnScope ["many", "thing", "one"] ["many", "thing"] (defScope s_are_integers) := ⟨rfl, rfl, rfl, by decide +kernel, rfl, by decide +kernel, by decide +kernel⟩
abbrev s_are_between : Stmt := (top 5)
theorem sc_are_between : FnScope ["many", "low", "high", "thing", "one"] ["many", "low", "high", "thing"] (defScope s_are_between) := ⟨rfl, rfl, rfl, by decide +kernel, rfl, by decide +kernel, by decide +kernel⟩
abbrev s_are_roads : Stmt := (top 15)
theorem sc_are_roads : FnScope ["houses", "thing", "road"] ["houses", "thing"] (defScope s_are_roads) := ⟨rfl, rfl, rfl, by decide +kernel, rfl, by decide +kernel, by decide +kernel⟩
abbrev s_is_begin_and_end : Stmt := (top 16)
theorem sc_is_begin_and_end : FnScope ["houses", "thing"] ["houses", "thing"] (defScope s_is_begin_and_end) := ⟨rfl, rfl, rfl, by decide +kernel, rfl, by decide +kernel, by decide +kernel⟩
abbrev s_root : Stmt := (top 18)
theorem sc_root : FnScope ["web", "ends", "last", "found", "house", "at", "_", "begin", "end"] ["web"] (defScope s_root) := ⟨rfl, rfl, rfl, by decide +kernel, rfl, by decide +kernel, by decide +kernel⟩
abbrev s_law_pool : Stmt := (top 20)
theorem sc_law_pool : FnScope ["_law_script", "_law_seed", "_law_cell"] ["_law_script"] (defScope s_law_pool) := ⟨rfl, rfl, rfl, by decide +kernel, rfl, by decide +kernel, by decide +kernel⟩
abbrev s_law_draw : Stmt := (top 21)
theorem sc_law_draw : FnScope ["_law_pool_here", "_law_many", "_law_cells", "_law_digit", "_law_mixed_here"] ["_law_pool_here", "_law_many"] (defScope s_law_draw) := ⟨rfl, rfl, rfl, by decide +kernel, rfl, by decide +kernel, by decide +kernel⟩
abbrev s_law_some : Stmt := (top 22)
theorem sc_law_some : FnScope ["_law_pool_here", "_law_things"] ["_law_pool_here", "_law_things"] (defScope s_law_some) := ⟨rfl, rfl, rfl, by decide +kernel, rfl, by decide +kernel, by decide +kernel⟩
abbrev s_law_free_roads : Stmt := (top 23)
theorem sc_law_free_roads : FnScope ["_law_pool_here", "_law_houses", "_law_many", "_law_roads", "_law_k", "_law_begin", "_law_end"] ["_law_pool_here", "_law_houses", "_law_many"] (defScope s_law_free_roads) := ⟨rfl, rfl, rfl, by decide +kernel, rfl, by decide +kernel, by decide +kernel⟩
abbrev s_law_tree_roads : Stmt := (top 24)
theorem sc_law_tree_roads : FnScope ["_law_houses", "_law_pool_here", "_law_house"] ["_law_houses", "_law_pool_here"] (defScope s_law_tree_roads) := ⟨rfl, rfl, rfl, by decide +kernel, rfl, by decide +kernel, by decide +kernel⟩
abbrev s_law_ring_roads : Stmt := (top 25)
theorem sc_law_ring_roads : FnScope ["_law_houses", "_law_house"] ["_law_houses"] (defScope s_law_ring_roads) := ⟨rfl, rfl, rfl, by decide +kernel, rfl, by decide +kernel, by decide +kernel⟩
abbrev s_law_web : Stmt := (top 26)
theorem sc_law_web : FnScope ["_law_pool_here", "_law_most", "_law_kind", "_law_houses", "_law_roads", "_law_ties", "_law_plain", "_law_rooms", "_law_times", "_law_begin", "_law_end", "_law_road"] ["_law_pool_here", "_law_most"] (defScope s_law_web) := ⟨rfl, rfl, rfl, by decide +kernel, rfl, by decide +kernel, by decide +kernel⟩
abbrev s_law_great_web : Stmt := (top 27)
theorem sc_law_great_web : FnScope ["_law_pool_here", "_law_houses", "_law_roads", "_law_ones"] ["_law_pool_here"] (defScope s_law_great_web) := ⟨rfl, rfl, rfl, by decide +kernel, rfl, by decide +kernel, by decide +kernel⟩
abbrev s_law_made : Stmt := (top 28)
theorem sc_law_made : FnScope ["_law_web_here"] ["_law_web_here"] (defScope s_law_made) := ⟨rfl, rfl, rfl, by decide +kernel, rfl, by decide +kernel, by decide +kernel⟩
abbrev s_law_mixed : Stmt := (top 29)
theorem sc_law_mixed : FnScope ["_law_pool_here", "_law_things", "_law_left", "_law_found", "_law_k"] ["_law_pool_here", "_law_things"] (defScope s_law_mixed) := ⟨rfl, rfl, rfl, by decide +kernel, rfl, by decide +kernel, by decide +kernel⟩
abbrev s_law_rooted : Stmt := (top 30)
theorem sc_law_rooted : FnScope ["_law_pool_here", "_law_houses", "_law_names", "_law_roads", "_law_begin", "_law_end", "_law_rooms", "_law_times", "_law_road"] ["_law_pool_here"] (defScope s_law_rooted) := ⟨rfl, rfl, rfl, by decide +kernel, rfl, by decide +kernel, by decide +kernel⟩
abbrev s_law_root : Stmt := (top 31)
theorem sc_law_root : FnScope ["_law_web_here", "_law_houses", "_law_roads", "_law_begins", "_law_ends", "_law_house", "_law_here", "_law_step", "_law_pair"] ["_law_web_here"] (defScope s_law_root) := ⟨rfl, rfl, rfl, by decide +kernel, rfl, by decide +kernel, by decide +kernel⟩
abbrev s_law_bent : Stmt := (top 32)
theorem sc_law_bent : FnScope ["_law_pool_here", "_law_parts", "_law_houses", "_law_roads", "_law_rooms", "_law_times", "_law_at", "_law_begin", "_law_end", "_law_kind", "_law_made_here", "_law_other", "_law_ones"] ["_law_pool_here", "_law_parts"] (defScope s_law_bent) := ⟨rfl, rfl, rfl, by decide +kernel, rfl, by decide +kernel, by decide +kernel⟩
abbrev s_law : Stmt := (top 33)
theorem sc_law : FnScope ["_law_script", "_law_pool_here", "_law_rooted_here", "_law_houses", "_law_ones", "_law_ring", "_law_line", "_law_webs", "_law_turn", "_law_parts", "_law_due", "_law_told", "_law_plain"] ["_law_script"] (defScope s_law) := ⟨rfl, rfl, rfl, by decide +kernel, rfl, by decide +kernel, by decide +kernel⟩
abbrev s_Web___init : Stmt := inClass (top 14) 0
theorem sc_Web___init : FnScope ["self", "houses", "roads", "rooms", "times"] ["self", "houses", "roads", "rooms", "times"] (defScope s_Web___init) := ⟨rfl, rfl, rfl, by decide +kernel, rfl, by decide +kernel, by decide +kernel⟩
abbrev s_BadWeb___init : Stmt := inClass (top 8) 0
theorem sc_BadWeb___init : FnScope ["self", "part"] ["self", "part"] (defScope s_BadWeb___init) := ⟨rfl, rfl, rfl, by decide +kernel, rfl, by decide +kernel, by decide +kernel⟩
structure Tx (K : PySem.W.Frag) (mg : Str → Option Value) : Type where
  is_integer : Df K mg "is_integer" s_is_integer ["thing"]
  is_between : Df K mg "is_between" s_is_between ["low", "high", "thing"]
  is_tuple : Df K mg "is_tuple" s_is_tuple ["many", "thing"]
  are_integers : Df K mg "are_integers" s_are_integers ["many", "thing"]
  are_between : Df K mg "are_between" s_are_between ["many", "low", "high", "thing"]
  are_roads : Df K mg "are_roads" s_are_roads ["houses", "thing"]
  is_begin_and_end : Df K mg "is_begin_and_end" s_is_begin_and_end ["houses", "thing"]
  root : Df K mg "root" s_root ["web"]
  _law_pool : Df K mg "_law_pool" s_law_pool ["_law_script"]
  _law_draw : Df K mg "_law_draw" s_law_draw ["_law_pool_here", "_law_many"]
  _law_some : Df K mg "_law_some" s_law_some ["_law_pool_here", "_law_things"]
  _law_free_roads : Df K mg "_law_free_roads" s_law_free_roads ["_law_pool_here", "_law_houses", "_law_many"]
  _law_tree_roads : Df K mg "_law_tree_roads" s_law_tree_roads ["_law_houses", "_law_pool_here"]
  _law_ring_roads : Df K mg "_law_ring_roads" s_law_ring_roads ["_law_houses"]
  _law_web : Df K mg "_law_web" s_law_web ["_law_pool_here", "_law_most"]
  _law_great_web : Df K mg "_law_great_web" s_law_great_web ["_law_pool_here"]
  _law_made : Df K mg "_law_made" s_law_made ["_law_web_here"]
  _law_mixed : Df K mg "_law_mixed" s_law_mixed ["_law_pool_here", "_law_things"]
  _law_rooted : Df K mg "_law_rooted" s_law_rooted ["_law_pool_here"]
  _law_root : Df K mg "_law_root" s_law_root ["_law_web_here"]
  _law_bent : Df K mg "_law_bent" s_law_bent ["_law_pool_here", "_law_parts"]
  law : Df K mg "law" s_law ["_law_script"]
  c_MOST_HOUSES : ∃ t, mg "MOST_HOUSES" = some (.int 12 t)
  c_MOST_ROADS : ∃ t, mg "MOST_ROADS" = some (.int 24 t)
  c_MOST_ROOMS : ∃ t, mg "MOST_ROOMS" = some (.int 3 t)
  c_LONGEST_TIME : ∃ t, mg "LONGEST_TIME" = some (.int 3 t)
  Web : Wf K mg "Web" "Web.__init__" s_Web___init ["self", "houses", "roads", "rooms", "times"] ["houses", "roads", "rooms", "times"]
  x_BadWeb : Xf K mg "BadWeb" "BadWeb.__init__" s_BadWeb___init ["self", "part"] ["part"]
  n_isinstance : mg "isinstance" = none
  n_int : mg "int" = none
  n_bool : mg "bool" = none
  n_tuple : mg "tuple" = none
  n_list : mg "list" = none
  n_len : mg "len" = none
  n_all : mg "all" = none
  n_abs : mg "abs" = none
  n_range : mg "range" = none

section
variable {P : Program} {w : World} {K : PySem.W.Frag} {mg : Str → Option Value} {base : Heap}
def spThing (g : D → Bool) : Sp := fun vs H Q _ => ∃ (h : Addr) (v : V) (d : D), vs = [v] ∧ Rp H h v d ∧ Q (.bl (g d)) H
theorem ok_is_integer (T : Tx K mg) : FnOk P w K mg base CX0 1 T.is_integer.f T.is_integer.fd ["thing"] (spThing isInt) := by
  refine T.is_integer.F.ok sc_is_integer (fun vs H Q E h => ?_) (fun cdv A outer s H vs Q E hr h => ?_)
  · obtain ⟨_, v, d, rfl, _⟩ := h
    rfl
  · obtain ⟨_, v, d, rfl, r, k⟩ := h
    refine ⟨_, (pss_one (ps_ret (pe_and (pe_callB call_isi (by rfl) T.n_isinstance (by decide +kernel) (pa_cons (pv 0) (pa_cons (pe_bltn (v := .ty "int") (by rfl) T.n_int (by decide +kernel) rfl) pa_nil))) (pe_one (pe_not (pe_callB call_isi (by rfl) T.n_isinstance (by decide +kernel) (pa_cons (pv 0) (pa_cons (pe_bltn (v := .ty "bool") (by rfl) T.n_bool (by decide +kernel) rfl) pa_nil)))))))), ?_⟩
    refine ⟨_, rfl, _, _, _, _, _, rfl, .ty "int", r.ty, kit_ty (kitI d), _, rfl, ?_⟩
    cases e : isIB d with
    | false =>
      refine iteF ?_
      have : isInt d = false := by cases d <;> first | rfl | exact Bool.noConfusion e
      rw [this] at k
      exact k
    | true =>
      refine iteT ?_
      refine ⟨_, rfl, _, _, _, _, _, rfl, .ty "bool", r.ty, kit_ty (kitBo d), _, rfl, ?_⟩
      have : (!isB d) = isInt d := by cases d <;> first | rfl | exact Bool.noConfusion e
      rw [this]
      exact k
def spBtw : Sp := fun vs H Q _ => ∃ (h : Addr) (lo hi : Int) (v : V) (d : D), vs = [.int lo, .int hi, v] ∧ Rp H h v d ∧ Q (.bl (isBtw lo hi d)) H
theorem ok_is_between (T : Tx K mg) : FnOk P w K mg base CX0 2 T.is_between.f T.is_between.fd ["low", "high", "thing"] spBtw := by
  refine T.is_between.F.ok sc_is_between (fun vs H Q E h => ?_) (fun cdv A outer s H vs Q E hr h => ?_)
  · obtain ⟨_, lo, hi, v, d, rfl, _⟩ := h
    rfl
  · obtain ⟨_, lo, hi, v, d, rfl, r, k⟩ := h
    refine ⟨_, (pss_one (ps_ret (pe_and (pe_call (ok_is_integer T) (hr.mono (by decide)) rfl T.is_integer.g T.is_integer.F.kp T.is_integer.b .nil pass0 (pa_cons (pv 2) pa_nil)) (pe_one (pe_chain op_le op_le (pv 0) (pv 2) (pv 1)))))), ?_⟩
    refine ⟨_, rfl, _, v, d, rfl, r, _, rfl, ?_⟩
    cases r with
    | int i =>
      refine iteT ?_
      refine ⟨_, rfl, _, rfl, _, _, rfl, rfl, _, rfl, ?_⟩
      by_cases h1 : lo ≤ i
      · rw [decide_eq_true h1]
        refine iteT ?_
        refine ⟨_, rfl, _, _, rfl, rfl, ?_⟩
        have : isBtw lo hi (.int i) = decide (i ≤ hi) := by show (decide (lo ≤ i) && decide (i ≤ hi)) = _; rw [decide_eq_true h1]; rfl
        rw [this] at k
        exact k
      · rw [decide_eq_false h1]
        refine iteF ?_
        have : isBtw lo hi (.int i) = false := by show (decide (lo ≤ i) && decide (i ≤ hi)) = _; rw [decide_eq_false h1]; rfl
        rw [this] at k
        exact k
    | _ => exact iteF k
def isTupN (n : Int) : D → Bool | .tup ds => decide ((ds.length : Int) = n) | _ => false
def spTupN : Sp := fun vs H Q _ => ∃ (h : Addr) (n : Int) (v : V) (d : D), vs = [.int n, v] ∧ Rp H h v d ∧ Q (.bl (isTupN n d)) H
theorem int_eqd (a b : Int) : decide (V.int a = V.int b) = decide (a = b) := by
  by_cases e : a = b
  · subst e; simp
  · rw [decide_eq_false e, decide_eq_false fun z => e (V.int.inj z)]
theorem ok_is_tuple (T : Tx K mg) : FnOk P w K mg base CX0 1 T.is_tuple.f T.is_tuple.fd ["many", "thing"] spTupN := by
  refine T.is_tuple.F.ok sc_is_tuple (fun vs H Q E h => ?_) (fun cdv A outer s H vs Q E hr h => ?_)
  · obtain ⟨_, n, v, d, rfl, _⟩ := h
    rfl
  · obtain ⟨ha, n, v, d, rfl, r, k⟩ := h
    refine ⟨_, (pss_one (ps_ret (pe_and (pe_callB call_isi (by rfl) T.n_isinstance (by decide +kernel) (pa_cons (pv 1) (pa_cons (pe_bltn (v := .ty "tuple") (by rfl) T.n_tuple (by decide +kernel) rfl) pa_nil))) (pe_one (pe_cmpR op_eq (pe_callB call_len_seq (by rfl) T.n_len (by decide +kernel) (pa_cons (pv 1) pa_nil)) (pv 0) (nomark _)))))), ?_⟩
    refine ⟨_, rfl, _, _, _, _, _, rfl, .ty "tuple", r.ty, kit_ty (kitT d), _, rfl, ?_⟩
    cases r with
    | @tup _ xs ds e z ra =>
      refine iteT ?_
      refine ⟨_, rfl, _, _, rfl, .inr (SqT.of e), _, rfl, rfl, ?_⟩
      rw [int_eqd, ra.len]
      exact k
    | _ => exact iteF k
def spInts : Sp := fun vs H Q _ => ∃ (h : Addr) (n : Int) (v : V) (d : D), vs = [.int n, v] ∧ Rp H h v d ∧ ∀ H', Same H H' → Q (.bl (areInts n d)) H'
theorem areInts_tup (n : Int) (ds : List D) : areInts n (.tup ds) = (decide ((ds.length : Int) = n) && ds.all isInt) := rfl
theorem areBtw_tup (n lo hi : Int) (ds : List D) : areBtw n lo hi (.tup ds) = (decide ((ds.length : Int) = n) && ds.all (isBtw lo hi)) := rfl
theorem areRoads_tup (n : Int) (ds : List D) : areRoads n (.tup ds) = (decide (1 ≤ ds.length) && decide (ds.length ≤ 24) && ds.all (isBE n)) := rfl
theorem map_all (ds : List D) (p : D → Bool) : (ds.map p).all id = ds.all p := by rw [List.all_map]; rfl
theorem ok_are_integers (T : Tx K mg) : FnOk P w K mg base CX0 2 T.are_integers.f T.are_integers.fd ["many", "thing"] spInts := by
  refine T.are_integers.F.ok sc_are_integers (fun vs H Q E h => ?_) (fun cdv A outer s H vs Q E hr h => ?_)
  · obtain ⟨_, n, v, d, rfl, _⟩ := h
    rfl
  · obtain ⟨ha, n, v, d, rfl, r, k⟩ := h
    refine ⟨_, (pss_one (ps_ret (pe_and (pe_call (ok_is_tuple T) (hr.mono (by decide)) rfl T.is_tuple.g T.is_tuple.F.kp T.is_tuple.b .nil pass0 (pa_cons (pv 0) (pa_cons (pv 1) pa_nil))) (pe_one (pe_callB (cr_all rfl) (by rfl) T.n_all (by decide +kernel) (pa_cons (pe_lc (own := [("one", 2)]) (g := (gName 2)) (tt := tYes) rfl sc_are_integers.nd (pi_tup (pv 1)) (blkOk_by (own := [("one", 2)]) (N := ["many", "thing", "one"]) (sc := defScope s_are_integers) (by decide +kernel)) (fun _ _ _ _ _ => (pg_name (i := 2) sc_are_integers.nd rfl (Or.inl rfl))) (fun _ _ _ _ _ => pts_nil) (fun _ _ _ _ _ => (by exact (pe_call (ok_is_integer T) (hr.mono (by decide)) rfl T.is_integer.g T.is_integer.F.kp T.is_integer.b .nil pass0 (pa_cons (pv 2) pa_nil))))) pa_nil)))))), ?_⟩
    refine ⟨_, rfl, _, rfl, ha, n, v, d, rfl, r, _, rfl, ?_⟩
    cases r with
    | @tup _ xs ds e z ra =>
      show if decide ((ds.length : Int) = n) = true then _ else _
      by_cases hn : (ds.length : Int) = n
      · rw [decide_eq_true hn]
        refine iteT ?_
        refine ⟨_, rfl, _, rfl, ⟨_, SqT.of e⟩, fun A hA => all_tup e z ra isInt hA (fun x => rfl) (fun x d H' Q' _ _ rp q => ?_) (fun H' sm sl => ?_)⟩
        · exact ⟨_, rfl, ha, _, _, rfl, rp, q _ (Same.refl _)⟩
        · refine ⟨_, _, rfl, sl, ?_⟩
          rw [map_all]
          have := k H' sm
          rw [areInts_tup, decide_eq_true hn] at this
          exact this
      · rw [decide_eq_false hn]
        refine iteF ?_
        have := k H (Same.refl _)
        rw [areInts_tup, decide_eq_false hn] at this
        exact this
    | _ => exact iteF (k H (Same.refl _))
def spBtws : Sp := fun vs H Q _ => ∃ (h : Addr) (n lo hi : Int) (v : V) (d : D), vs = [.int n, .int lo, .int hi, v] ∧ Rp H h v d ∧ ∀ H', Same H H' → Q (.bl (areBtw n lo hi d)) H'
theorem btw_int (lo hi : Int) (ds : List D) : (ds.all isInt && ds.all (isBtw lo hi)) = ds.all (isBtw lo hi) := by
  cases e : ds.all (isBtw lo hi) with
  | false => rw [Bool.and_false]
  | true =>
    rw [Bool.and_true, List.all_eq_true]
    rw [List.all_eq_true] at e
    intro d hd
    have := e d hd
    cases d <;> first | rfl | exact Bool.noConfusion this
theorem ok_are_between (T : Tx K mg) : FnOk P w K mg base CX0 3 T.are_between.f T.are_between.fd ["many", "low", "high", "thing"] spBtws := by
  refine T.are_between.F.ok sc_are_between (fun vs H Q E h => ?_) (fun cdv A outer s H vs Q E hr h => ?_)
  · obtain ⟨_, n, lo, hi, v, d, rfl, _⟩ := h
    rfl
  · obtain ⟨ha, n, lo, hi, v, d, rfl, r, k⟩ := h
    refine ⟨_, (pss_one (ps_ret (pe_and (pe_call (ok_are_integers T) (hr.mono (by decide)) rfl T.are_integers.g T.are_integers.F.kp T.are_integers.b .nil pass0 (pa_cons (pv 0) (pa_cons (pv 3) pa_nil))) (pe_one (pe_callB (cr_all rfl) (by rfl) T.n_all (by decide +kernel) (pa_cons (pe_lc (own := [("one", 4)]) (g := (gName 4)) (tt := tYes) rfl sc_are_between.nd (pi_tup (pv 3)) (blkOk_by (own := [("one", 4)]) (N := ["many", "low", "high", "thing", "one"]) (sc := defScope s_are_between) (by decide +kernel)) (fun _ _ _ _ _ => (pg_name (i := 4) sc_are_between.nd rfl (Or.inl rfl))) (fun _ _ _ _ _ => pts_nil) (fun _ _ _ _ _ => (by exact (pe_chain op_le op_le (pv 1) (pv 4) (pv 2))))) pa_nil)))))), ?_⟩
    refine ⟨_, rfl, _, rfl, ha, _, _, _, rfl, r, fun H1 s1 => ⟨_, rfl, ?_⟩⟩
    cases e1 : areInts n d with
    | false =>
      refine iteF ?_
      have : areBtw n lo hi d = false := by
        cases d with
        | tup ds =>
          show (decide _ && ds.all (isBtw lo hi)) = false
          rw [← btw_int, ← Bool.and_assoc]
          have e2 : (decide ((ds.length : Int) = n) && ds.all isInt) = false := e1
          rw [e2]; rfl
        | _ => rfl
      have q := k H1 s1
      rw [this] at q
      exact q
    | true =>
      refine iteT ?_
      cases r.same s1 with
      | tup e z ra =>
        refine ⟨_, rfl, _, rfl, ⟨_, SqT.of e⟩, fun A hA => all_tup e z ra (isBtw lo hi) hA (fun x => rfl) (fun x d H' Q' hd _ rp q => ?_) (fun H' sm sl => ?_)⟩
        · have e2 := (Bool.and_eq_true_iff.mp e1).2
          rw [List.all_eq_true] at e2
          have e3 := e2 d hd
          cases rp with
          | int i =>
            refine ⟨_, rfl, _, rfl, _, _, rfl, rfl, _, rfl, ?_⟩
            by_cases h1 : lo ≤ i
            · rw [decide_eq_true h1]
              refine iteT ?_
              refine ⟨_, rfl, _, _, rfl, rfl, ?_⟩
              have : isBtw lo hi (.int i) = decide (i ≤ hi) := by show (decide (lo ≤ i) && decide (i ≤ hi)) = _; rw [decide_eq_true h1]; rfl
              have q2 := q _ (Same.refl _)
              rw [this] at q2
              exact q2
            · rw [decide_eq_false h1]
              refine iteF ?_
              have : isBtw lo hi (.int i) = false := by show (decide (lo ≤ i) && decide (i ≤ hi)) = _; rw [decide_eq_false h1]; rfl
              have q2 := q _ (Same.refl _)
              rw [this] at q2
              exact q2
          | _ => exact Bool.noConfusion e3
        · refine ⟨_, _, rfl, sl, ?_⟩
          rw [map_all]
          have := k H' (s1.trans sm)
          have e4 := (Bool.and_eq_true_iff.mp e1).1
          rw [areBtw_tup, e4] at this
          exact this
      | _ => exact Bool.noConfusion e1
def spBE : Sp := fun vs H Q _ => ∃ (h : Addr) (n : Int) (v : V) (d : D), vs = [.int n, v] ∧ Rp H h v d ∧ ∀ H', Same H H' → Q (.bl (isBE n d)) H'
theorem be_false {n : Int} {d : D} (e : areBtw 2 0 (n - 1) d = false) : isBE n d = false := by
  unfold isBE
  rw [e]; rfl
theorem be_true {n : Int} {d : D} (e : areBtw 2 0 (n - 1) d = true) : ∃ a b, d = .tup [.int a, .int b] ∧ isBE n d = !decide (a = b) := by
  have e0 := e
  cases d with
  | tup ds =>
    rw [areBtw_tup] at e
    obtain ⟨h1, h2⟩ := Bool.and_eq_true_iff.mp e
    have h3 := of_decide_eq_true h1
    match ds, h3 with
    | [x, y], _ =>
      rw [List.all_cons, List.all_cons, List.all_nil, Bool.and_true] at h2
      obtain ⟨h4, h5⟩ := Bool.and_eq_true_iff.mp h2
      cases x with
      | int a =>
        cases y with
        | int b =>
          refine ⟨a, b, rfl, ?_⟩
          unfold isBE
          rw [e0]; rfl
        | _ => exact Bool.noConfusion h5
      | _ => exact Bool.noConfusion h4
    | [], h => simp at h
    | [_], h => simp at h
    | _ :: _ :: _ :: _, h => simp at h; omega
  | _ => exact Bool.noConfusion e
theorem ok_is_begin_and_end (T : Tx K mg) : FnOk P w K mg base CX0 4 T.is_begin_and_end.f T.is_begin_and_end.fd ["houses", "thing"] spBE := by
  refine T.is_begin_and_end.F.ok sc_is_begin_and_end (fun vs H Q E h => ?_) (fun cdv A outer s H vs Q E hr h => ?_)
  · obtain ⟨_, n, v, d, rfl, _⟩ := h
    rfl
  · obtain ⟨ha, n, v, d, rfl, r, k⟩ := h
    refine ⟨_, (pss_one (ps_ret (pe_and (pe_call (ok_are_between T) (hr.mono (by decide)) rfl T.are_between.g T.are_between.F.kp T.are_between.b .nil pass0 (pa_cons pe_int (pa_cons pe_int (pa_cons (pe_op op_sub (pv 0) pe_int) (pa_cons (pv 1) pa_nil))))) (pe_one (pe_cmpR op_ne (pe_ix ix_tup (pv 1) pe_int (fun _ _ => rfl)) (pe_ix ix_tup (pv 1) pe_int (fun _ _ => rfl)) (nomark _)))))), ?_⟩
    refine ⟨_, rfl, _, _, rfl, rfl, _, rfl, ha, _, _, _, _, _, rfl, r, fun H1 s1 => ⟨_, rfl, ?_⟩⟩
    cases e1 : areBtw 2 0 (n - 1) d with
    | false =>
      refine iteF ?_
      have q := k H1 s1
      rw [be_false e1] at q
      exact q
    | true =>
      refine iteT ?_
      obtain ⟨a, b, rfl, e2⟩ := be_true e1
      have q := k H1 s1
      rw [e2] at q
      cases r.same s1 with
      | tup e z ra =>
        cases ra with
        | cons r1 ra =>
          cases ra with
          | cons r2 ra =>
            cases ra
            cases r1
            cases r2
            refine ⟨_, rfl, _, _, _, _, rfl, rfl, SqT.of e, atI_nat (j := 0) rfl, _, rfl, _, _, _, _, rfl, rfl, SqT.of e, atI_nat (j := 1) rfl, rfl, ?_⟩
            rw [int_eqd]
            exact q
def spRoads : Sp := fun vs H Q _ => ∃ (h : Addr) (n : Int) (v : V) (d : D), vs = [.int n, v] ∧ Rp H h v d ∧ ∀ H', Same H H' → Q (.bl (areRoads n d)) H'
theorem ok_are_roads (T : Tx K mg) : FnOk P w K mg base CX0 5 T.are_roads.f T.are_roads.fd ["houses", "thing"] spRoads := by
  refine T.are_roads.F.ok sc_are_roads (fun vs H Q E h => ?_) (fun cdv A outer s H vs Q E hr h => ?_)
  · obtain ⟨_, n, v, d, rfl, _⟩ := h
    rfl
  · obtain ⟨ha, n, v, d, rfl, r, k⟩ := h
    refine ⟨_, (pss_one (ps_ret (pe_and (pe_callB call_isi (by rfl) T.n_isinstance (by decide +kernel) (pa_cons (pv 1) (pa_cons (pe_bltn (v := .ty "tuple") (by rfl) T.n_tuple (by decide +kernel) rfl) pa_nil))) (pe_and (pe_chain op_le op_le pe_int (pe_callB call_len_seq (by rfl) T.n_len (by decide +kernel) (pa_cons (pv 1) pa_nil)) (pe_glob (v := .int 24) rfl T.c_MOST_ROADS.choose_spec ⟨_, rfl⟩)) (pe_one (pe_callB (cr_all rfl) (by rfl) T.n_all (by decide +kernel) (pa_cons (pe_lc (own := [("road", 2)]) (g := (gName 2)) (tt := tYes) rfl sc_are_roads.nd (pi_tup (pv 1)) (blkOk_by (own := [("road", 2)]) (N := ["houses", "thing", "road"]) (sc := defScope s_are_roads) (by decide +kernel)) (fun _ _ _ _ _ => (pg_name (i := 2) sc_are_roads.nd rfl (Or.inl rfl))) (fun _ _ _ _ _ => pts_nil) (fun _ _ _ _ _ => (by exact (pe_call (ok_is_begin_and_end T) (hr.mono (by decide)) rfl T.is_begin_and_end.g T.is_begin_and_end.F.kp T.is_begin_and_end.b .nil pass0 (pa_cons (pv 0) (pa_cons (pv 2) pa_nil)))))) pa_nil))))))), ?_⟩
    refine ⟨_, rfl, _, _, _, _, _, rfl, .ty "tuple", r.ty, kit_ty (kitT d), _, rfl, ?_⟩
    cases r with
    | @tup _ xs ds e z ra =>
      refine iteT ?_
      refine ⟨_, rfl, _, _, rfl, .inr (SqT.of e), _, _, rfl, rfl, _, rfl, ?_⟩
      rw [ra.len]
      by_cases h1 : 1 ≤ ds.length
      · rw [decide_eq_true (show (1 : Int) ≤ (ds.length : Int) by omega)]
        refine iteT ?_
        refine ⟨_, _, rfl, rfl, _, rfl, ?_⟩
        by_cases h2 : ds.length ≤ 24
        · rw [decide_eq_true (show (ds.length : Int) ≤ 24 by omega)]
          refine iteT ?_
          refine ⟨_, rfl, _, rfl, ⟨_, SqT.of e⟩, fun A hA => all_tup e z ra (isBE n) hA (fun x => rfl) (fun x d H' Q' _ _ rp q => ?_) (fun H' sm sl => ?_)⟩
          · exact ⟨_, rfl, _, rfl, ha, _, _, _, rfl, rp, q⟩
          · refine ⟨_, _, rfl, sl, ?_⟩
            rw [map_all]
            have := k H' sm
            rw [areRoads_tup, decide_eq_true h1, decide_eq_true h2] at this
            exact this
        · rw [decide_eq_false (show ¬ (ds.length : Int) ≤ 24 by omega)]
          refine iteF ?_
          have := k H (Same.refl _)
          rw [areRoads_tup, decide_eq_true h1, decide_eq_false h2] at this
          exact this
      · rw [decide_eq_false (show ¬ (1 : Int) ≤ (ds.length : Int) by omega)]
        refine iteF ?_
        have := k H (Same.refl _)
        rw [areRoads_tup, decide_eq_false h1] at this
        exact ⟨_, rfl, iteF this⟩
    | _ => exact iteF (k H (Same.refl _))
theorem btw_shape {lo hi : Int} {d : D} (e : isBtw lo hi d = true) : ∃ n, d = .int n := by
  cases d with
  | int n => exact ⟨n, rfl⟩
  | _ => exact Bool.noConfusion e
theorem roads_shape {n : Int} {d : D} (e : areRoads n d = true) : ∃ ds, d = .tup ds := by
  cases d with
  | tup ds => exact ⟨ds, rfl⟩
  | _ => exact Bool.noConfusion e
theorem tup_inv {H : Hp} {h : Addr} {v : V} {ds : List D} (r : Rp H h v (.tup ds)) : ∃ a xs, v = .ref a ∧ H a = some (.tup xs) ∧ xs.length ≤ 100000 ∧ RpA H h xs ds := by
  cases r with
  | tup e z ra => exact ⟨_, _, rfl, e, z, ra⟩
theorem int_inv {H : Hp} {h : Addr} {v : V} {i : Int} (r : Rp H h v (.int i)) : v = .int i := by
  cases r; rfl
theorem putF_lt {f : Str} {v : V} : ∀ {fs : List (Str × V)} {n : Nat}, fs.length < n → (putF f v fs).length < n + 1
  | [], n, h => by show 1 < n + 1; have : 0 < n := h; omega
  | (g, w) :: fs, n, h => by
    have h' : fs.length + 1 < n := h
    show (if g = f then (g, v) :: fs else (g, w) :: putF f v fs).length < n + 1
    by_cases e : g = f
    · rw [if_pos e]; show fs.length + 1 < n + 1; omega
    · rw [if_neg e]
      have := putF_lt (f := f) (v := v) (fs := fs) (n := n - 1) (by omega)
      show (putF f v fs).length + 1 < n + 1
      omega
/-- the error's own dict behind it -/
def spInitE (C : Addr) (f : Str) : Sp := fun vs H Q _ => ∃ (a : Addr) (y : V), vs = [.ref a, y] ∧ H a = some (exo a C none) ∧
  ∀ dx, H dx = none → dx ≠ a → Q .non (upd (upd H dx (exd dx [(f, y)])) a (exo a C (some dx)))
theorem ok_BadWeb___init (T : Tx K mg) : FnOk P w K mg base (L2.CX P w) 1 T.x_BadWeb.f T.x_BadWeb.fd ["self", "part"] (spInitE T.x_BadWeb.C "part") := by
  refine T.x_BadWeb.F.okX sc_BadWeb___init (fun vs H Q E h => ?_) (fun cdv A outer s H vs Q E hr h => ?_)
  · obtain ⟨a, y, rfl, _⟩ := h
    rfl
  · obtain ⟨a, y, rfl, ha, k⟩ := h
    refine ⟨_, pss_one (ps_ost (pv 0) (pv 1)), ?_⟩
    exact ⟨_, rfl, _, rfl, a, T.x_BadWeb.C, rfl, T.x_BadWeb.T, T.x_BadWeb.no _ (by simp), .inl ⟨ha, fun dx n ne => k dx n ne⟩⟩
def dlen : D → Nat | .tup ds => ds.length | _ => 0
def num : D → Int | .int i => i | _ => 0
/-- the first part that is not as told -/
def due (d1 d2 d3 d4 : D) : Option Str :=
  if isBtw 2 12 d1 = false then some "houses" else if areRoads (num d1) d2 = false then some "roads"
  else if areBtw (dlen d2) 1 3 d3 = false then some "rooms" else if areBtw (dlen d2) 1 3 d4 = false then some "times" else none
def webF (v1 v2 v3 v4 : V) : List (Str × V) := putF "times" v4 (putF "rooms" v3 (putF "roads" v2 (putF "houses" v1 [])))
def spWeb (C CB : Addr) : Sp := fun vs H Q E => ∃ (h p dx : Addr) (v1 v2 v3 v4 : V) (d1 d2 d3 d4 : D), vs = [.ref p, v1, v2, v3, v4] ∧ H p = some (.ins C dx []) ∧
  Rp H h v1 d1 ∧ Rp H h v2 d2 ∧ Rp H h v3 d3 ∧ Rp H h v4 d4 ∧
  (due d1 d2 d3 d4 = none → ∀ H', But p H H' → H' p = some (.ins C dx (webF v1 v2 v3 v4)) → Q .non H') ∧
  (∀ part, due d1 d2 d3 d4 = some part → ∀ H' d, Same H H' → H' d = some (.xd [("part", .str part)]) → E (.ref CB) (some d) H')
theorem err_same {H H1 : Hp} {a d C : Addr} {f : Str} {y : V} (s : Same H H1) (ha : H1 a = none) (hd : (upd H1 a (exo a C none)) d = none) (ne : d ≠ a) :
    Same H (upd (del (upd (upd (upd H1 a (exo a C none)) d (exd d [(f, y)])) a (exo a C (some d))) a) d (.xd [(f, y)])) := fun b o q => by
  have q1 := s b o q
  have n1 : b ≠ a := ne_of_none q1 ha
  have n2 : b ≠ d := fun z => by subst z; rw [upd_ne n1, q1] at hd; cases hd
  rw [upd_ne n2, del_ne n1, upd_ne n1, upd_ne n2, upd_ne n1]
  exact q1
theorem ok_Web___init (T : Tx K mg) : FnOk P w K mg base (L2.CX P w) 7 T.Web.f T.Web.fd ["self", "houses", "roads", "rooms", "times"] (spWeb T.Web.C T.x_BadWeb.C) := by
  refine T.Web.F.okX sc_Web___init (fun vs H Q E h => ?_) (fun cdv A outer s H vs Q E hr h => ?_)
  · obtain ⟨ha, p, dx, v1, v2, v3, v4, d1, d2, d3, d4, rfl, _⟩ := h
    rfl
  · obtain ⟨ha, p, dx, v1, v2, v3, v4, d1, d2, d3, d4, rfl, hp, r1, r2, r3, r4, kq, ke⟩ := h
    refine ⟨_, (pss_cons (ps_if (pt_not (pt_val (pe_call (ok_is_between T) (hr.mono (by decide)) rfl T.is_between.g T.is_between.F.kp T.is_between.b .nil pass0 (pa_cons pe_int (pa_cons (pe_glob (v := .int 12) rfl T.c_MOST_HOUSES.choose_spec ⟨_, rfl⟩) (pa_cons (pv 1) pa_nil))))))
      (pss_one (ps_raise rfl (takes_of rfl rfl rfl rfl) (pmk_oex T.x_BadWeb.T T.x_BadWeb.iC T.x_BadWeb.tI (ok_BadWeb___init T) (hr.mono (by decide)) T.x_BadWeb.b .nil passL rfl T.x_BadWeb.g (pa_cons pe_str pa_nil))))
      pss_nil)
      (pss_cons (ps_if (pt_not (pt_val (pe_call (ok_are_roads T) (hr.mono (by decide)) rfl T.are_roads.g T.are_roads.F.kp T.are_roads.b .nil pass0 (pa_cons (pv 1) (pa_cons (pv 2) pa_nil)))))
      (pss_one (ps_raise rfl (takes_of rfl rfl rfl rfl) (pmk_oex T.x_BadWeb.T T.x_BadWeb.iC T.x_BadWeb.tI (ok_BadWeb___init T) (hr.mono (by decide)) T.x_BadWeb.b .nil passL rfl T.x_BadWeb.g (pa_cons pe_str pa_nil))))
      pss_nil)
      (pss_cons (ps_if (pt_not (pt_val (pe_call (ok_are_between T) (hr.mono (by decide)) rfl T.are_between.g T.are_between.F.kp T.are_between.b .nil pass0 (pa_cons (pe_callB call_len_seq (by rfl) T.n_len (by decide +kernel) (pa_cons (pv 2) pa_nil)) (pa_cons pe_int (pa_cons (pe_glob (v := .int 3) rfl T.c_MOST_ROOMS.choose_spec ⟨_, rfl⟩) (pa_cons (pv 3) pa_nil)))))))
      (pss_one (ps_raise rfl (takes_of rfl rfl rfl rfl) (pmk_oex T.x_BadWeb.T T.x_BadWeb.iC T.x_BadWeb.tI (ok_BadWeb___init T) (hr.mono (by decide)) T.x_BadWeb.b .nil passL rfl T.x_BadWeb.g (pa_cons pe_str pa_nil))))
      pss_nil)
      (pss_cons (ps_if (pt_not (pt_val (pe_call (ok_are_between T) (hr.mono (by decide)) rfl T.are_between.g T.are_between.F.kp T.are_between.b .nil pass0 (pa_cons (pe_callB call_len_seq (by rfl) T.n_len (by decide +kernel) (pa_cons (pv 2) pa_nil)) (pa_cons pe_int (pa_cons (pe_glob (v := .int 3) rfl T.c_LONGEST_TIME.choose_spec ⟨_, rfl⟩) (pa_cons (pv 4) pa_nil)))))))
      (pss_one (ps_raise rfl (takes_of rfl rfl rfl rfl) (pmk_oex T.x_BadWeb.T T.x_BadWeb.iC T.x_BadWeb.tI (ok_BadWeb___init T) (hr.mono (by decide)) T.x_BadWeb.b .nil passL rfl T.x_BadWeb.g (pa_cons pe_str pa_nil))))
      pss_nil)
      (pss_cons (ps_fld (pv 0) (pv 1) rfl)
      (pss_cons (ps_fld (pv 0) (pv 2) rfl)
      (pss_cons (ps_fld (pv 0) (pv 3) rfl)
      (pss_one (ps_fld (pv 0) (pv 4) rfl))))))))), ?_⟩
    have raise : ∀ (part : Str) (H1 : Hp), Same H H1 → due d1 d2 d3 d4 = some part → ∀ a, H1 a = none →
        spInitE T.x_BadWeb.C "part" [.ref a, .str part] (upd H1 a (exo a T.x_BadWeb.C none)) (fun v H2 => v = .non ∧ ∃ (d : Addr) (fs : List (Str × V)), H2 a = some (exo a T.x_BadWeb.C (some d)) ∧ H2 d = some (exd d fs) ∧ H1 d = none ∧
          E (.ref T.x_BadWeb.C) (some d) (upd (del H2 a) d (.xd fs))) (fun _ _ _ => False) := by
      intro part H1 s1 hdue a hA
      refine ⟨a, _, rfl, upd_same, fun d hd nd => ⟨rfl, d, [("part", .str part)], upd_same, ?_, ?_, ?_⟩⟩
      · rw [upd_ne nd, upd_same]
      · rw [upd_ne nd] at hd; exact hd
      · exact ke part hdue _ d (err_same s1 hA hd nd) upd_same
    refine ⟨_, rfl, ha, _, _, _, _, rfl, r1, _, rfl, ?_⟩
    cases e1 : isBtw 2 12 d1 with
    | false =>
      refine iteT ⟨by show 1 ≤ 1000; decide, fun a hA => raise _ H (Same.refl _) (if_pos e1) a hA⟩
    | true =>
    refine iteF ?_
    have x1 : ¬ isBtw 2 12 d1 = false := by rw [e1]; decide
    obtain ⟨n, rfl⟩ := btw_shape e1
    cases r1
    refine ⟨_, rfl, _, rfl, ha, _, _, _, rfl, r2, fun H1 s1 => ⟨_, rfl, ?_⟩⟩
    cases e2 : areRoads n d2 with
    | false =>
      refine iteT ⟨by show 1 ≤ 1000; decide, fun a hA => raise _ H1 s1 ((if_neg x1).trans (if_pos e2)) a hA⟩
    | true =>
    refine iteF ?_
    have x2 : ¬ areRoads (num (.int n)) d2 = false := by show ¬ areRoads n d2 = false; rw [e2]; decide
    obtain ⟨ds, rfl⟩ := roads_shape e2
    obtain ⟨pa, xs, rfl, ea, za, ra⟩ := tup_inv r2
    refine ⟨_, rfl, _, _, rfl, .inr (SqT.of (s1 _ _ ea)), _, rfl, ha, _, _, _, _, _, rfl, r3.same s1, fun H2 s2 => ⟨_, rfl, ?_⟩⟩
    rw [ra.len]
    cases e3 : areBtw (ds.length : Int) 1 3 d3 with
    | false =>
      refine iteT ⟨by show 1 ≤ 1000; decide, fun a hA => raise _ H2 (s1.trans s2) ((if_neg x1).trans ((if_neg x2).trans (if_pos e3))) a hA⟩
    | true =>
    refine iteF ?_
    have x3 : ¬ areBtw (dlen (.tup ds)) 1 3 d3 = false := by show ¬ areBtw (ds.length : Int) 1 3 d3 = false; rw [e3]; decide
    refine ⟨_, rfl, _, _, rfl, .inr (SqT.of (s2 _ _ (s1 _ _ ea))), _, rfl, ha, _, _, _, _, _, rfl, (r4.same s1).same s2, fun H3 s3 => ⟨_, rfl, ?_⟩⟩
    rw [ra.len]
    cases e4 : areBtw (ds.length : Int) 1 3 d4 with
    | false =>
      refine iteT ⟨by show 1 ≤ 1000; decide, fun a hA => raise _ H3 ((s1.trans s2).trans s3) ((if_neg x1).trans ((if_neg x2).trans ((if_neg x3).trans (if_pos e4)))) a hA⟩
    | true =>
    refine iteF ?_
    have x4 : ¬ areBtw (dlen (.tup ds)) 1 3 d4 = false := by show ¬ areBtw (ds.length : Int) 1 3 d4 = false; rw [e4]; decide
    have sm := (s1.trans s2).trans s3
    have no : ∀ f ∈ (["houses", "roads", "rooms", "times"] : List Str), NoAttr K T.Web.C f := T.Web.no
    refine ⟨_, rfl, _, rfl, p, T.Web.C, dx, _, rfl, sm _ _ hp, T.Web.cl, no _ (by simp), (by decide), ?_⟩
    refine ⟨_, rfl, _, rfl, p, T.Web.C, dx, _, rfl, upd_same, T.Web.cl, no _ (by simp), (putF_lt (n := 999) (by decide)), ?_⟩
    refine ⟨_, rfl, _, rfl, p, T.Web.C, dx, _, rfl, upd_same, T.Web.cl, no _ (by simp), (putF_lt (n := 999) (putF_lt (n := 998) (by decide))), ?_⟩
    refine ⟨_, rfl, _, rfl, p, T.Web.C, dx, _, rfl, upd_same, T.Web.cl, no _ (by simp), (putF_lt (n := 999) (putF_lt (n := 998) (putF_lt (n := 997) (by decide)))), ?_⟩
    refine kq ((if_neg x1).trans ((if_neg x2).trans ((if_neg x3).trans (if_neg x4)))) _ (fun b o q n => ?_) upd_same
    rw [upd_ne n, upd_ne n, upd_ne n, upd_ne n]
    exact sm _ _ q
end
end Hc

set_option autoImplicit false
namespace Hc
abbrev Prs := List (Int × Int)
/-- the end told last for b -/
def getL (ps : Prs) (b : Int) : Option Int := ps.foldl (fun o p => if p.1 = b then some p.2 else o) none
/-- the end told first -/
def getF (ps : Prs) (b : Int) : Option Int := (ps.find? fun p => decide (p.1 = b)).map (·.2)
def endsN (n : Int) (ps : Prs) : List Nat := (List.range n.toNat).filter fun j => !decide ((j : Int) ∈ ps.map (·.1))
def itN (f : Int → Int) : Nat → Int → Int
  | 0, x => x
  | k + 1, x => f (itN f k x)
def stP (ps : Prs) (r x : Int) : Int := (getL ps x).getD r
def stF (ps : Prs) (x : Int) : Int := (getF ps x).getD x
/-- what the program tells -/
def rootP (n : Int) (ps : Prs) : Option Int :=
  match endsN n ps with
  | [r] => if (ps.length : Int) = n - 1 ∧ (∀ j ∈ List.range n.toNat, itN (stP ps r) ps.length (j : Nat) = r) then some (r : Nat) else none
  | _ => none
/-- what the law tells -/
def rootF (n : Int) (ps : Prs) : Option Int :=
  match endsN n ps with
  | [r] => if (ps.length : Int) = n - 1 ∧ (∀ j ∈ List.range n.toNat, itN (stF ps) n.toNat (j : Nat) = r) then some (r : Nat) else none
  | _ => none
theorem getL_snoc (ps : Prs) (p : Int × Int) (b : Int) : getL (ps ++ [p]) b = if p.1 = b then some p.2 else getL ps b := by
  unfold getL
  rw [List.foldl_append]; rfl
theorem getL_some (ps : Prs) (b : Int) : (getL ps b).isSome = decide (b ∈ ps.map (·.1)) := by
  suffices h : ∀ (ps : Prs) (o : Option Int), (ps.foldl (fun o p => if p.1 = b then some p.2 else o) o).isSome = (o.isSome || decide (b ∈ ps.map (·.1))) by
    have := h ps none
    exact this
  intro ps
  induction ps with
  | nil => intro o; simp
  | cons p ps ih =>
    intro o
    rw [List.foldl_cons, ih, List.map_cons]
    by_cases e : p.1 = b
    · rw [if_pos e]; simp [e]
    · rw [if_neg e]
      have : (b ∈ p.1 :: ps.map (·.1)) ↔ b ∈ ps.map (·.1) := by
        rw [List.mem_cons]
        constructor
        · rintro (z | z)
          · exact absurd z.symm e
          · exact z
        · exact .inr
      congr 1
      exact (decide_eq_decide.mpr this).symm
theorem nodup_sub {α : Type} [DecidableEq α] : ∀ (k l : List α), k.Nodup → (∀ x ∈ k, x ∈ l) → k.length ≤ l.length
  | [], _, _, _ => Nat.zero_le _
  | a :: k, l, nd, s => by
    have nd' := List.nodup_cons.mp nd
    have ha : a ∈ l := s a List.mem_cons_self
    have h := nodup_sub k (l.erase a) nd'.2 (fun x hx => (List.mem_erase_of_ne (fun z => nd'.1 (by rw [← z]; exact hx))).mpr (s x (List.mem_cons_of_mem _ hx)))
    rw [List.length_erase_of_mem ha] at h
    have : 0 < l.length := List.length_pos_of_mem ha
    rw [List.length_cons]; omega
/-- a list that covers as many unlike ones has each once -/
theorem cover_nodup {α : Type} [DecidableEq α] (k l : List α) (nd : k.Nodup) (s : ∀ x ∈ k, x ∈ l) (e : l.length = k.length) : l.Nodup := by
  apply Classical.byContradiction
  intro h
  obtain ⟨a, ha⟩ : ∃ a, 1 < l.count a := by
    apply Classical.byContradiction
    intro z
    apply h
    rw [List.nodup_iff_count]
    intro a
    apply Classical.byContradiction
    intro w
    exact z ⟨a, by omega⟩
  have h2 := nodup_sub k (l.erase a) nd (fun x hx => by
    by_cases q : x = a
    · subst q
      have : 0 < (l.erase x).count x := by rw [List.count_erase_self]; omega
      exact List.count_pos_iff.mp this
    · exact (List.mem_erase_of_ne q).mpr (s x hx))
  have ha' : a ∈ l := List.count_pos_iff.mp (by omega)
  rw [List.length_erase_of_mem ha'] at h2
  have : 0 < l.length := List.length_pos_of_mem ha'
  omega
theorem get_same : ∀ (ps : Prs) (b : Int), (ps.map (·.1)).Nodup → getL ps b = getF ps b := by
  intro ps b nd
  suffices h : ∀ (ps : Prs) (o : Option Int), (ps.map (·.1)).Nodup → ps.foldl (fun o p => if p.1 = b then some p.2 else o) o = ((getF ps b).or o) by
    have := h ps none nd
    rw [Option.or_none] at this
    exact this
  intro ps
  induction ps with
  | nil => intro o _; rfl
  | cons p ps ih =>
    intro o nd
    rw [List.map_cons] at nd
    have nd' := List.nodup_cons.mp nd
    rw [List.foldl_cons, ih _ nd'.2]
    unfold getF
    rw [List.find?_cons]
    by_cases e : p.1 = b
    · rw [if_pos e, decide_eq_true e]
      have : (ps.find? fun p => decide (p.1 = b)) = none := by
        rw [List.find?_eq_none]
        intro q hq z
        have z := of_decide_eq_true z
        exact nd'.1 (List.mem_map.mpr ⟨q, hq, z.trans e.symm⟩)
      rw [this]; rfl
    · rw [if_neg e, decide_eq_false e]
theorem it_fix {f : Int → Int} {r : Int} (h : f r = r) : ∀ k, itN f k r = r
  | 0 => rfl
  | k + 1 => by show f (itN f k r) = r; rw [it_fix h k, h]
theorem it_add (f : Int → Int) (i : Nat) (x : Int) : ∀ j, itN f (i + j) x = itN f j (itN f i x)
  | 0 => rfl
  | j + 1 => by show f (itN f (i + j) x) = f (itN f j (itN f i x)); rw [it_add f i x j]
theorem it_congr {f g : Int → Int} {S : Int → Prop} (h : ∀ x, S x → f x = g x) (cl : ∀ x, S x → S (f x)) : ∀ k x, S x → itN f k x = itN g k x ∧ S (itN f k x)
  | 0, x, s => ⟨rfl, s⟩
  | k + 1, x, s => by
    obtain ⟨a, b⟩ := it_congr h cl k x s
    exact ⟨by show f (itN f k x) = g (itN g k x); rw [← a]; exact h _ b, cl _ b⟩
/-- a walk that gets there gets there within as many steps as there are others -/
theorem it_short {f : Int → Int} {r : Int} {n : Nat} (hr : f r = r) (r0 : 0 ≤ r) (r1 : r < (n : Int)) (cl : ∀ x : Int, 0 ≤ x ∧ x < (n : Int) → 0 ≤ f x ∧ f x < (n : Int)) {x : Int} (hx : 0 ≤ x ∧ x < (n : Int)) (h : itN f n x = r) : itN f (n - 1) x = r := by
  apply Classical.byContradiction
  intro hne
  have all : ∀ i, i ≤ n - 1 → itN f i x ≠ r := fun i hi z => by
    apply hne
    have : n - 1 = i + (n - 1 - i) := by omega
    rw [this, it_add, z, it_fix hr]
  have inR : ∀ i, 0 ≤ itN f i x ∧ itN f i x < (n : Int) := by
    intro i
    induction i with
    | zero => exact hx
    | succ i ih => exact cl _ ih
  have inj : ∀ i j, i < j → j ≤ n - 1 → itN f i x ≠ itN f j x := fun i j hij hj z => by
    have e1 : itN f (i + (n - j)) x = r := by
      rw [it_add, z, ← it_add, show j + (n - j) = n by omega]
      exact h
    exact all (i + (n - j)) (by omega) e1
  have nd : ((List.range n).map fun i => itN f i x).Nodup := by
    rw [List.nodup_iff_pairwise_ne, List.pairwise_map]
    refine List.Pairwise.imp_of_mem ?_ List.pairwise_lt_range
    intro a b ha hb hab
    have := List.mem_range.mp hb
    exact inj a b hab (by omega)
  have nd2 : (r :: (List.range n).map fun i => itN f i x).Nodup := by
    rw [List.nodup_cons]
    refine ⟨fun z => ?_, nd⟩
    obtain ⟨i, hi, e⟩ := List.mem_map.mp z
    have := List.mem_range.mp hi
    exact all i (by omega) e
  have := nodup_sub _ ((List.range n).map fun j => ((j : Nat) : Int)) nd2 (fun y hy => by
    have in2 : ∀ y : Int, 0 ≤ y → y < (n : Int) → y ∈ (List.range n).map fun j => ((j : Nat) : Int) := fun y a b => List.mem_map.mpr ⟨y.toNat, List.mem_range.mpr (by omega), by omega⟩
    rcases List.mem_cons.mp hy with rfl | hy
    · exact in2 _ r0 r1
    · obtain ⟨i, _, rfl⟩ := List.mem_map.mp hy
      exact in2 _ (inR i).1 (inR i).2)
  simp at this
  omega
theorem getF_none {ps : Prs} {b : Int} (h : b ∉ ps.map (·.1)) : getF ps b = none := by
  unfold getF
  have : (ps.find? fun p => decide (p.1 = b)) = none := by
    rw [List.find?_eq_none]
    intro q hq z
    exact h (List.mem_map.mpr ⟨q, hq, of_decide_eq_true z⟩)
  rw [this]; rfl
theorem getF_some {ps : Prs} {b : Int} (h : b ∈ ps.map (·.1)) : ∃ p ∈ ps, p.1 = b ∧ getF ps b = some p.2 := by
  obtain ⟨q, hq, e⟩ := List.mem_map.mp h
  cases f : ps.find? fun p => decide (p.1 = b) with
  | none =>
    rw [List.find?_eq_none] at f
    exact absurd (decide_eq_true e) (by have := f q hq; simpa using this)
  | some p => exact ⟨p, List.mem_of_find?_eq_some f, of_decide_eq_true (by have := List.find?_some f; exact this), by unfold getF; rw [f]; rfl⟩
theorem roots_same {n : Int} {ps : Prs} (n0 : 2 ≤ n) (g : ∀ p ∈ ps, 0 ≤ p.1 ∧ p.1 < n ∧ 0 ≤ p.2 ∧ p.2 < n ∧ p.1 ≠ p.2) : rootP n ps = rootF n ps := by
  unfold rootP rootF
  cases hE : endsN n ps with
  | nil => rfl
  | cons r t =>
  cases t with
  | cons _ _ => rfl
  | nil =>
    have cond : ((ps.length : Int) = n - 1 ∧ (∀ j ∈ List.range n.toNat, itN (stP ps r) ps.length (j : Nat) = r)) ↔ ((ps.length : Int) = n - 1 ∧ (∀ j ∈ List.range n.toNat, itN (stF ps) n.toNat (j : Nat) = r)) := by
      have hr : r ∈ endsN n ps := by rw [hE]; exact List.mem_cons_self
      have hr' : r ∈ List.range n.toNat ∧ (!decide ((r : Int) ∈ ps.map (·.1))) = true := List.mem_filter.mp hr
      have r1 := List.mem_range.mp hr'.1
      have rn : (r : Int) ∉ ps.map (·.1) := fun z => by
        have h := hr'.2
        rw [decide_eq_true z] at h
        cases h
      have oth : ∀ j : Nat, j < n.toNat → j ≠ r → (j : Int) ∈ ps.map (·.1) := fun j hj ne => by
        apply Classical.byContradiction
        intro z
        have : j ∈ endsN n ps := List.mem_filter.mpr ⟨List.mem_range.mpr hj, by rw [decide_eq_false z]; rfl⟩
        rw [hE, List.mem_singleton] at this
        exact ne this
      have key : (ps.length : Int) = n - 1 → (ps.map (·.1)).Nodup := fun hl => by
        refine cover_nodup (((List.range n.toNat).erase r).map fun j => ((j : Nat) : Int)) _ ?_ ?_ ?_
        · rw [List.nodup_iff_pairwise_ne, List.pairwise_map]
          refine List.Pairwise.imp ?_ (List.Nodup.erase r List.nodup_range)
          intro a b hab z
          exact hab (by omega)
        · intro x hx
          obtain ⟨j, hj, rfl⟩ := List.mem_map.mp hx
          rw [List.Nodup.mem_erase_iff List.nodup_range] at hj
          exact oth j (List.mem_range.mp hj.2) hj.1
        · rw [List.length_map, List.length_map, List.length_erase_of_mem hr'.1, List.length_range]
          omega
      have sF : ∀ x : Int, 0 ≤ x ∧ x < n → 0 ≤ stF ps x ∧ stF ps x < n := fun x hx => by
        unfold stF
        by_cases q : x ∈ ps.map (·.1)
        · obtain ⟨p, hp, _, e⟩ := getF_some q
          rw [e]
          obtain ⟨_, _, a, b, _⟩ := g p hp
          exact ⟨a, b⟩
        · rw [getF_none q]; exact hx
      have step : (ps.length : Int) = n - 1 → ∀ x : Int, 0 ≤ x ∧ x < n → stF ps x = stP ps r x := fun hl x hx => by
        unfold stF stP
        rw [get_same ps x (key hl)]
        by_cases q : x ∈ ps.map (·.1)
        · obtain ⟨p, hp, _, e⟩ := getF_some q
          rw [e]; rfl
        · rw [getF_none q]
          show x = (r : Int)
          by_cases z : x.toNat = r
          · omega
          · exact absurd (by have := oth x.toNat (by omega) z; rw [Int.toNat_of_nonneg hx.1] at this; exact this) q
      have fr : stF ps (r : Int) = r := by unfold stF; rw [getF_none rn]; rfl
      constructor
      · rintro ⟨hl, h⟩
        refine ⟨hl, fun j hj => ?_⟩
        have hx : 0 ≤ (j : Int) ∧ (j : Int) < n := by have := List.mem_range.mp hj; omega
        have e := (it_congr (S := fun x => 0 ≤ x ∧ x < n) (step hl) sF ps.length (j : Int) hx).1
        have e2 : n.toNat = ps.length + 1 := by omega
        rw [e2]
        show stF ps (itN (stF ps) ps.length (j : Int)) = r
        rw [e, h j hj, fr]
      · rintro ⟨hl, h⟩
        refine ⟨hl, fun j hj => ?_⟩
        have hx : 0 ≤ (j : Int) ∧ (j : Int) < n := by have := List.mem_range.mp hj; omega
        have e := (it_congr (S := fun x => 0 ≤ x ∧ x < n) (step hl) sF ps.length (j : Int) hx).1
        rw [← e]
        have nn : ((n.toNat : Nat) : Int) = n := by omega
        have := it_short (n := n.toNat) (x := (j : Int)) fr (by omega) (by omega) (fun x hx => by rw [nn] at hx ⊢; exact sF x hx) (by rw [nn]; exact hx) (h j hj)
        rw [show ps.length = n.toNat - 1 by omega]
        exact this
    by_cases c : ((ps.length : Int) = n - 1 ∧ (∀ j ∈ List.range n.toNat, itN (stP ps r) ps.length (j : Nat) = r))
    · show (if _ then _ else _) = (if _ then _ else _)
      rw [if_pos c, if_pos (cond.mp c)]
    · show (if _ then _ else _) = (if _ then _ else _)
      rw [if_neg c, if_neg fun z => c (cond.mpr z)]
/-- the line's roads -/
def lineP (n : Nat) : Prs := (List.range (n - 1)).map fun i => ((0 : Int) + (i : Nat), ((0 : Int) + (i : Nat) + 1).fmod n)
theorem line_root : ∀ m : Fin 11, rootP ((2 + m.val : Nat) : Int) (lineP (2 + m.val)) = some ((1 + m.val : Nat) : Int) := by decide +kernel
end Hc

set_option Elab.async false
set_option linter.all false
set_option maxRecDepth 100000
set_option maxHeartbeats 1000000
set_option autoImplicit false
namespace HT
open PySem PySem.Spec PyProof.Rows
section
variable {prog : Program} {w : World} {A : Around} {E : Value → Shared → Prop} {s : Shared}
theorem adjust_rev (n : Nat) : Builtin.Slice.sliceAdjust none none (-1) (n : Int) = ((n : Int) - 1, -1) := by
  unfold Builtin.Slice.sliceAdjust
  have h1 : ((-1 : Int) < 0) := by omega
  simp only [h1, if_true]
theorem places_rev (n : Nat) : Builtin.Slice.slicePlaces ((n : Int) - 1) (-1) (-1) = n := by
  unfold Builtin.Slice.slicePlaces
  have h1 : ¬ ((-1 : Int) > 0) := by omega
  simp only [h1, if_false]
  split <;> (try simp) <;> omega
theorem sliceApplied_rev {sl : Addr} {n : Nat} {t : Tok} {Q : Int × Int × Nat → Shared → Prop} (hs : s.heap.IsSliceOf sl .none .none (.int (-1) t))
    (h : Q ((n : Int) - 1, -1, n) s) : wpAny (model prog w) A (Builtin.Slice.sliceApplied (.ref sl) (pure (n : Int))) Q E s := by
  obtain ⟨os, hos, hcs, hds⟩ := id hs
  unfold Builtin.Slice.sliceApplied Builtin.Slice.sliceFields
  refine wpAny_bind (wpAny_bind (wpAny_field hos hds (x := .none) rfl (wpAny_bind (wpAny_field hos hds (x := .none) rfl (wpAny_bind (wpAny_field hos hds (x := .int (-1) t) rfl (wpAny_pure ?_)))))))
  refine wpAny_bind (slicePart_ (.int (-1) t) ?_)
  show wpAny _ _ (if ((-1 : Int) == 0) = true then _ else _) _ _ s
  rw [if_neg (by decide)]
  refine wpAny_bind (slicePart_ .none (wpAny_bind (slicePart_ .none (wpAny_bind (wpAny_pure ?_)))))
  show wpAny _ _ (match Builtin.Slice.sliceAdjust none none (-1) (n : Int) with | (lo, hi) => pure (lo, (-1 : Int), Builtin.Slice.slicePlaces lo hi (-1))) _ _ s
  rw [adjust_rev n]
  show wpAny _ _ (pure ((n : Int) - 1, (-1 : Int), Builtin.Slice.slicePlaces ((n : Int) - 1) (-1) (-1))) _ _ s
  rw [places_rev]
  exact wpAny_pure h
theorem fm_congr {α β : Type} {f g : α → Option β} : ∀ l : List α, (∀ x ∈ l, f x = g x) → l.filterMap f = l.filterMap g
  | [], _ => rfl
  | x :: l, h => by
    have e := h x List.mem_cons_self
    have r := fm_congr l fun y hy => h y (List.mem_cons_of_mem _ hy)
    rw [List.filterMap_cons, List.filterMap_cons, e, r]
theorem pick_rev (xs : Array Value) : ((List.range xs.size).filterMap fun (m : Nat) => xs[(((xs.size : Int) - 1) + (m : Int) * (-1)).toNat]?).toArray = xs.toList.reverse.toArray := by
  have e : (List.range xs.size).filterMap (fun (m : Nat) => xs[(((xs.size : Int) - 1) + (m : Int) * (-1)).toNat]?) = (List.range xs.size).filterMap ((xs[·]?) ∘ fun k => xs.size - 1 - k) :=
    fm_congr _ fun m hm => by
      have hm := List.mem_range.mp hm
      have e1 : (((xs.size : Int) - 1) + (m : Int) * (-1)).toNat = xs.size - 1 - m := by omega
      rw [e1]; rfl
  rw [e, ← List.filterMap_map, PySem.W.krv_range, List.filterMap_reverse, PySem.W.krv_all]
theorem getItem_tuple_rev {t sl : Addr} {items : Array Value} {u : Tok} {Q : Value → Shared → Prop} (ht : IsTup s.heap t items) (hs : s.heap.IsSliceOf sl .none .none (.int (-1) u))
    (h : Q (.ref s.heap.objs.size) { s with heap := s.heap.push { cls := .type "tuple", data := .seq items.toList.reverse.toArray } })
    (hsz : items.size ≤ sizeLine) : wpAny (model prog w) A (getItem (.ref t) (.ref sl)) Q E s := by
  have htake : sizeOk (.seq items.toList.reverse.toArray) := by
    show items.toList.reverse.toArray.size ≤ sizeLine
    rw [List.size_toArray, List.length_reverse, Array.length_toList]
    omega
  obtain ⟨os, hos, hcs, hds⟩ := id hs
  have hTs : s.TypeIs (.ref sl) "slice" := ⟨os, hos, hcs⟩
  unfold getItem
  try with_reducible refine wpAny_holding ?_
  first | refine wpAny_bind (wpAny_pure ?_) | skip
  refine wpAny_bind (wpAny_sequenceKey ht.typeIs (by decide) ?_)
  refine wpAny_bind (wpAny_callSpecial?_slot (name := Str.ofString "__getitem__") ht.typeIs PyProof.Rows.slot_tuple_getitem
    (wpAny_call_entry PyProof.Rows.slot_tuple_getitem ht.typeIs entry_tuple_getitem ?_ (args_tuple_getitem _ _)))
  show wpAny _ _ (Builtin.Tuple.tupleItemsOf (.ref t) >>= _) _ _ s
  refine wpAny_bind (tupleItemsOf_ ht ?_)
  refine wpAny_bind (wpAny_typeOf hTs ?_)
  rw [if_pos (by decide)]
  refine wpAny_bind (sliceApplied_rev hs ?_)
  have hno : ¬ ((((items.size : Int) - 1) == 0 && (-1 : Int) == 1 && items.size == items.size) = true) := by
    intro q
    rw [Bool.and_eq_true, Bool.and_eq_true] at q
    exact absurd q.1.2 (by decide)
  show wpAny _ _ (if (((items.size : Int) - 1) == 0 && (-1 : Int) == 1 && items.size == items.size) = true then _ else _) _ _ s
  rw [if_neg hno, pick_rev]
  first
    | exact wpAny_bind (m := Builtin.Tuple.tupleExact _) (wpAny_newObj_type (wpAny_pure ⟨_, rfl, wpAny_pure h⟩) htake)
    | exact wpAny_bind (m := Builtin.Tuple.tupleExact _) (wpAny_newObj_type (wpAny_bind (wpAny_pure (wpAny_pure ⟨_, rfl, wpAny_pure h⟩))) htake)
    | exact wpAny_bind (wpAny_bind (m := Builtin.Tuple.tupleExact _) (wpAny_newObj_type (wpAny_pure (wpAny_pure ⟨_, rfl, wpAny_pure h⟩)) htake))
    | exact wpAny_bind (wpAny_bind (m := Builtin.Tuple.tupleExact _) (wpAny_newObj_type (wpAny_pure ⟨_, rfl, wpAny_pure h⟩) htake))
end
end HT
namespace L2
open PySem PySem.Spec PyProof.Rows
section
variable {X : Cx}
/-- set(t), t a tuple of ints -/
def rSetT (K : PySem.W.Frag) (w : World) : List V → Hp → VK → Prop := fun xs H Q => ∃ (l : Addr) (ns : List Int), xs = [.ref l] ∧ SqT K H l (ns.map V.int) ∧ ns.length ≤ 1000 ∧
  ∀ a n, n ≤ ns.length → H a = none → Q (.ref a) (upd H a (SetO w a (fun j => decide (j ∈ ns)) n))
theorem cr_setT (hc : X.calm = true) : CallR X (.type "set") (rSetT X.K X.w) := by
  intro pins s σ H xs us Q I r h
  obtain ⟨l, ns, rfl, hq, hl, q⟩ := h
  obtain ⟨u, rfl, ru⟩ := vals1 r
  cases ru
  obtain ⟨its, rv, pt, hz⟩ := I.tuple hq
  have hi : IntsAre its.toArray.toList ns := ints_of_vals rv
  refine call_set_tupI ns (I.ok.hd hc) (show s.heap.IsTuple l its.toArray from pt) hi (by unfold scanBound; omega) fun h' tk c R1 hcn k => ?_
  exact ⟨.ref s.heap.objs.size, _, I.laid (t' := tk) (h' := h') (o := SetO X.w s.heap.objs.size (fun j => decide (j ∈ ns)) c) k (Nat.le_refl _) (setO_new R1), rfl, q _ c hcn (I.hok.fresh (Nat.le_refl _))⟩
def tRevT (K : PySem.W.Frag) (te : TE) : TE := fun σ H Q => te σ H fun x H1 => ∃ a xs, x = .ref a ∧ SqT K H1 a xs ∧ ∀ p, H1 p = none → Q (.ref p) (upd H1 p (.tup xs.reverse))
theorem pe_revT {e : Expr} {te : TE} {k : Nat} {p1 p2 p3 pos : Pos} (he : PE X e te) : PE X (.Subscript e (.Slice none none (some (.UnaryOp .USub (.Constant (.int 1) k p1) p2)) p3) pos) (tRevT X.K te) := by
  refine ⟨fun pins s σ H Q I h => ?_⟩
  refine Subscript_ (thn (he.run pins s σ H _ I h) fun v s1 ⟨x, H1, I1, r1, q1⟩ => ?_)
  obtain ⟨a, xs, ex, hx, q⟩ := q1
  subst ex
  cases r1
  have hst : PO X (some (.UnaryOp .USub (.Constant (.int 1) k p1) p2)) (tPart (tUn (rU fun i => .int (-i)) (tC (.int 1)))) := po_some (pe_un un_neg pe_int)
  refine wpAny_Slice (thn (po_none.run pins s1 σ H1 (fun o H2 => o = none ∧ H2 = H1) I1 ⟨rfl, rfl⟩) fun vl s2 ⟨l, H2, I2, pl, el, e2⟩ => ?_)
  subst el e2
  refine thn (po_none.run pins s2 σ H2 (fun o H3 => o = none ∧ H3 = H2) I2 ⟨rfl, rfl⟩) fun vu s3 ⟨u, H3, I3, pu, eu, e3⟩ => ?_
  subst eu e3
  refine thn (hst.run pins s3 σ H3 (fun o H4 => o = some (-1) ∧ H4 = H3) I3 ⟨1, rfl, -1, rfl, rfl, rfl⟩) fun vs s4 ⟨o, H4, I4, ps, eo, e4⟩ => ?_
  subst eo e4
  cases pl
  cases pu
  cases ps with
  | int _ tt =>
  have I5 : Inv X pins σ H4 { s4 with heap := s4.heap.push { cls := .type "slice", data := .fields #[.none, .none, .int (-1) tt] } } := I4.kept (t' := s4.toks) fun b ob q => Heap.get?_push_of_some _ q
  obtain ⟨its, r, ht, hz⟩ := I5.tuple hx
  have hlen := r.length
  show wpAny (model X.prog X.w) X.A (subscriptTail e (.Slice none none (some (.UnaryOp .USub (.Constant (.int 1) k p1) p2)) p3) (.ref a) (.ref s4.heap.objs.size)) (EP X pins σ Q) X.xe { s4 with heap := s4.heap.push { cls := .type "slice", data := .fields #[.none, .none, .int (-1) tt] } }
  refine tail_any (ops := [.ref a, .ref s4.heap.objs.size]) ht.typeIs (PyProof.Rows.slot_tuple_getitem.lookup) ?_ (by with_unfolding_all rfl)
  refine HT.getItem_tuple_rev ht (Heap.IsSliceOf.new _ .none .none (.int (-1) tt)) ?_ (by rw [List.size_toArray]; omega)
  refine ⟨.ref _, _, I5.laid (t' := s4.toks) (o := .tup xs.reverse) (fun b ob q => Heap.get?_push_of_some _ q) (Nat.le_refl _) ?_, rfl, q _ (I5.hok.fresh (Nat.le_refl _))⟩
  exact ⟨by rw [List.length_reverse]; exact hz, _, r.reverse, IsTup.new _ _⟩
end
end L2
namespace Hc
open PySem L2
/-- [f(a, b) for a, b in zip(s, t)]: two tuples, perhaps of unlike lengths -/
theorem lc_zipT {K : PySem.W.Frag} {a b : Addr} {xs ys : List V} {g : TG} {tt : TT} {te : TE} {vs : List Nat} {σ : St} {H1 : Hp} {D : Addr} {Qd : Hp → Prop} (Pv : Nat → Hp → Prop) (h0 : Pv 0 (upd H1 D (.lst [])))
    (hl : ∀ i H, Pv i H → SqT K H a xs ∧ SqT K H b ys)
    (hs : ∀ (i : Nat) (x y : V) (T : Addr) (H : Hp), xs[i]? = some x → ys[i]? = some y → Pv i H → H T = none → g (.ref T) (wipe σ vs) (upd H T (.tup [x, y])) fun σ2 H2 => wipe σ2 vs = wipe σ vs ∧ tt σ2 H2 fun b H3 =>
      if b = true then te σ2 H3 fun y H4 => ∃ acc, H4 D = some (.lst acc) ∧ acc.length < sizeLine ∧ Pv (i + 1) (upd H4 D (.lst (acc ++ [y]))) else Pv (i + 1) H3) (hd : ∀ H, Pv (min xs.length ys.length) H → Qd H) :
    ∃ W : Nat → Nat → Hp → Prop, (∃ m, W 0 m (upd H1 D (.lst []))) ∧ ∀ i m H, W i m H →
      ((RZ.ItzT K a b).stop i H ∧ Qd H) ∨ ((RZ.ItzT K a b).go i H ∧ ∃ Nx : Hp → Prop, (∀ H', Nx H' → ∃ m', m' < m ∧ W (i + 1) m' H') ∧ ∀ x H', (RZ.ItzT K a b).yld i H x H' → g x (wipe σ vs) H' fun σ2 H2 => wipe σ2 vs = wipe σ vs ∧ tt σ2 H2 fun b H3 =>
        if b = true then te σ2 H3 fun y H4 => ∃ acc, H4 D = some (.lst acc) ∧ acc.length < sizeLine ∧ Nx (upd H4 D (.lst (acc ++ [y]))) else Nx H3) := by
  refine ⟨fun i m H => m = min xs.length ys.length - i ∧ i ≤ min xs.length ys.length ∧ Pv i H, ⟨_, rfl, Nat.zero_le _, h0⟩, ?_⟩
  rintro i m H ⟨rfl, hi, p⟩
  obtain ⟨qx, qy⟩ := hl i H p
  by_cases hlt : i < min xs.length ys.length
  · have h1 : i < xs.length := by omega
    have h2 : i < ys.length := by omega
    refine .inr ⟨⟨xs, ys, _, _, qx, qy, List.getElem?_eq_getElem h1, List.getElem?_eq_getElem h2⟩, Pv (i + 1), fun H' p' => ⟨min xs.length ys.length - (i + 1), by omega, rfl, hlt, p'⟩, fun v H' y => ?_⟩
    obtain ⟨T, x', y', rfl, hT, rfl, f1, f2⟩ := y
    exact hs i x' y' T H (f1 xs qx) (f2 ys qy) p hT
  · have e : i = min xs.length ys.length := by omega
    subst e
    refine .inl ⟨⟨xs, ys, qx, qy, ?_⟩, hd H p⟩
    omega
end Hc

set_option Elab.async false
set_option linter.all false
set_option maxRecDepth 100000
set_option maxHeartbeats 1000000
set_option autoImplicit false
namespace Hc
open PySem L2
def bg : D → Int | .tup (.int a :: _) => a | _ => 0
def en : D → Int | .tup (_ :: .int b :: _) => b | _ => 0
def dAt (ds : List D) (i : Int) : D := ds.getD i.toNat .non
/-- a web's object at p -/
structure WebO (C : Addr) (H : Hp) (h p : Addr) (n : Int) (rds : List D) : Prop where
  ex : ∃ (dx : Addr) (v2 v3 v4 : V), H p = some (.ins C dx (webF (.int n) v2 v3 v4)) ∧ Rp H h v2 (.tup rds)
  all : rds.all (isBE n) = true
  l1 : 1 ≤ rds.length
  l2 : rds.length ≤ 24
theorem WebO.same {C : Addr} {H H' : Hp} {h p : Addr} {n : Int} {rds : List D} (w : WebO C H h p n rds) (s : Same H H') : WebO C H' h p n rds := by
  obtain ⟨⟨dx, v2, v3, v4, e, r⟩, a, b, c⟩ := w
  exact ⟨⟨dx, v2, v3, v4, s _ _ e, r.same s⟩, a, b, c⟩
theorem webN {a b : Str} (h : ¬ a = b) : ¬ a = b := h
theorem btw_of {lo hi i : Int} (a : lo ≤ i) (b : i ≤ hi) : isBtw lo hi (.int i) = true := by
  show (decide (lo ≤ i) && decide (i ≤ hi)) = true
  rw [decide_eq_true a, decide_eq_true b]; rfl
theorem RpA.ints {H : Hp} {h : Addr} : ∀ ns : List Int, RpA H h (ns.map V.int) (ns.map D.int)
  | [] => .nil
  | n :: r => .cons (.int n) (RpA.ints r)
theorem RpA.rep {H : Hp} {h : Addr} {v : V} {d : D} (r : Rp H h v d) : ∀ n : Nat, RpA H h (List.replicate n [v]).flatten (List.replicate n d)
  | 0 => .nil
  | n + 1 => by
    rw [List.replicate_succ, List.replicate_succ, List.flatten_cons]
    exact .cons r (RpA.rep r n)
theorem tyes {σ : St} {H : Hp} {A B : Hp → Prop} (h : A H) : tYes σ H (fun b H3 => if b = true then A H3 else B H3) := by
  unfold tYes
  show if true = true then A H else B H
  rw [if_pos rfl]
  exact h
theorem be_of {n a b : Int} (a0 : 0 ≤ a) (a1 : a < n) (b0 : 0 ≤ b) (b1 : b < n) (ne : a ≠ b) : isBE n (.tup [.int a, .int b]) = true := by
  unfold isBE
  rw [areBtw_tup, List.all_cons, List.all_cons, List.all_nil, btw_of a0 (by omega), btw_of b0 (by omega)]
  show (decide (((2 : Nat) : Int) = 2) && (true && (true && true)) && !decide (a = b)) = true
  rw [decide_eq_false ne]; decide
theorem be_full {n : Int} {d : D} (e : isBE n d = true) : ∃ a b, d = .tup [.int a, .int b] ∧ 0 ≤ a ∧ a < n ∧ 0 ≤ b ∧ b < n ∧ a ≠ b := by
  have e1 := (Bool.and_eq_true_iff.mp e).1
  obtain ⟨a, b, rfl, e2⟩ := be_true e1
  rw [e] at e2
  have ne : a ≠ b := fun z => by rw [decide_eq_true z] at e2; cases e2
  rw [areBtw_tup, List.all_cons, List.all_cons, List.all_nil, Bool.and_true] at e1
  obtain ⟨_, e3⟩ := Bool.and_eq_true_iff.mp e1
  obtain ⟨h4, h5⟩ := Bool.and_eq_true_iff.mp e3
  obtain ⟨p1, p2⟩ := Bool.and_eq_true_iff.mp (show (decide (0 ≤ a) && decide (a ≤ n - 1)) = true from h4)
  obtain ⟨p3, p4⟩ := Bool.and_eq_true_iff.mp (show (decide (0 ≤ b) && decide (b ≤ n - 1)) = true from h5)
  have q1 := of_decide_eq_true p1
  have q2 := of_decide_eq_true p2
  have q3 := of_decide_eq_true p3
  have q4 := of_decide_eq_true p4
  exact ⟨a, b, rfl, q1, by omega, q3, by omega, ne⟩
theorem ring_ne {b x n : Int} (b0 : 0 ≤ b) (b1 : b < n) (x0 : 0 ≤ x) (x1 : x < n - 1) : b ≠ (b + 1 + x).fmod n := by
  rw [Int.fmod_eq_emod_of_nonneg _ (by omega)]
  by_cases h : b + 1 + x < n
  · rw [Int.emod_eq_of_lt (by omega) h]; omega
  · have e : (b + 1 + x) % n = b + 1 + x - n := by
      rw [← Int.sub_emod_right, Int.emod_eq_of_lt (by omega) (by omega)]
    rw [e]; omega
/-- a tuple of natural numbers -/
def nD (ns : List Nat) : D := .tup (ns.map fun j => .int (j : Nat))
theorem nD_inv {H : Hp} {h : Addr} {v : V} {ns : List Nat} (r : Rp H h v (nD ns)) : ∃ a, v = .ref a ∧ H a = some (.tup (ns.map fun j => V.int (j : Nat))) ∧ ns.length ≤ 100000 := by
  obtain ⟨a, xs, rfl, e, z, ra⟩ := tup_inv r
  have key : ∀ {xs : List V} {ns : List Nat}, RpA H h xs (ns.map fun j => D.int (j : Nat)) → xs = ns.map fun j => V.int (j : Nat) := by
    intro xs ns
    induction ns generalizing xs with
    | nil => intro r; cases r; rfl
    | cons n ns ih =>
      intro r
      cases r with
      | cons r1 r2 => cases r1; rw [ih r2]; rfl
  have := key ra
  subst this
  rw [List.length_map] at z
  exact ⟨a, rfl, e, z⟩
theorem nD_mk {H : Hp} {h : Addr} {a : Addr} {ns : List Nat} (e : H a = some (.tup (ns.map fun j => V.int (j : Nat)))) (z : ns.length ≤ 100000) : Rp H h (.ref a) (nD ns) := by
  refine .tup e (by rw [List.length_map]; exact z) ?_
  clear e z
  induction ns with
  | nil => exact .nil
  | cons n ns ih => exact .cons (.int _) ih
theorem wF_r (v1 v2 v3 v4 : V) : (webF v1 v2 v3 v4).lookup ("roads" : Str) = some v2 := by
  have h1 : ¬ (("roads" : Str) = "rooms") := by decide +kernel
  have h2 : ¬ (("roads" : Str) = "times") := by decide +kernel
  unfold webF
  rw [lookup_putF, if_neg h2, lookup_putF, if_neg h1, lookup_putF, if_pos rfl]
/-- the road i of a web's roads -/
theorem RpA.road {H : Hp} {h : Addr} {xs : List V} {rds : List D} {n : Int} (r : RpA H h xs rds) (hall : rds.all (isBE n) = true) {j : Nat} (hj : j < rds.length) :
    ∃ q a b, xs[j]? = some (.ref q) ∧ H q = some (.tup [.int a, .int b]) ∧ bg (rds.getD j .non) = a ∧ en (rds.getD j .non) = b := by
  have hx : j < xs.length := by rw [r.len]; exact hj
  obtain ⟨d, h1, h2⟩ := r.get (List.getElem?_eq_getElem hx)
  rw [List.all_eq_true] at hall
  obtain ⟨a, b, rfl, _⟩ := be_full (hall d (List.mem_of_getElem? h1))
  obtain ⟨q, ys, e1, e2, _, ra⟩ := tup_inv h2
  have eg : rds.getD j .non = .tup [.int a, .int b] := by rw [List.getD_eq_getElem?_getD, h1]; rfl
  cases ra with
  | cons r1 ra =>
    cases ra with
    | cons r2 ra =>
      cases ra
      cases r1
      cases r2
      exact ⟨q, a, b, by rw [List.getElem?_eq_getElem hx, e1], e2, by rw [eg]; rfl, by rw [eg]; rfl⟩
def NL (H H' : Hp) : Prop := ∀ b o, H b = some o → (∀ xs, o ≠ .lst xs) → H' b = some o
theorem NL.refl (H : Hp) : NL H H := fun _ _ e _ => e
theorem NL.trans {H H1 H2 : Hp} (a : NL H H1) (b : NL H1 H2) : NL H H2 := fun c o e n => b c o (a c o e n) n
theorem NL.of {H H' : Hp} (s : Same H H') : NL H H' := fun b o e _ => s b o e
theorem NL.upd {H : Hp} {p : Addr} {o : HO} {xs : List V} (e : H p = some (.lst xs)) : NL H (upd H p o) := fun b u q n => by
  rw [upd_ne (fun z => by subst z; rw [e] at q; exact n xs (Option.some.inj q).symm)]
  exact q
theorem NL.tup {H H' : Hp} (k : NL H H') {b : Addr} {xs : List V} (e : H b = some (.tup xs)) : H' b = some (.tup xs) := k _ _ e (fun _ z => by cases z)
mutual
def noL : D → Bool
  | .lst => false
  | .tup ds => noLs ds
  | _ => true
def noLs : List D → Bool
  | [] => true
  | d :: ds => noL d && noLs ds
end
section
variable {H H' : Hp} {h : Addr}
mutual
theorem Rp.nl (k : NL H H') : ∀ {v : V} {d : D}, Rp H h v d → noL d = true → Rp H' h v d
  | _, _, .non, _ => .non
  | _, _, .bl b, _ => .bl b
  | _, _, .int i, _ => .int i
  | _, _, .str x, _ => .str x
  | _, _, .tup e z r, n => .tup (k.tup e) z (RpA.nl k r n)
  | _, _, .lst _ _, n => by cases n
  | _, _, .dct e, _ => .dct (k _ _ e (fun _ z => by cases z))
theorem RpA.nl (k : NL H H') : ∀ {vs : List V} {ds : List D}, RpA H h vs ds → noLs ds = true → RpA H' h vs ds
  | _, _, .nil, _ => .nil
  | _, _, .cons a r, n => by
    have n : (noL _ && noLs _) = true := n
    rw [Bool.and_eq_true] at n
    exact .cons (Rp.nl k a n.1) (RpA.nl k r n.2)
end
end
theorem noL_be {n : Int} : ∀ {rds : List D}, rds.all (isBE n) = true → noLs rds = true
  | [], _ => rfl
  | d :: ds, e => by
    rw [List.all_cons, Bool.and_eq_true] at e
    obtain ⟨a, b, rfl, _⟩ := be_full e.1
    show (noL _ && noLs ds) = true
    rw [noL_be e.2]; rfl
theorem noL_nat : ∀ ns : List Nat, noLs (ns.map fun j => D.int (j : Nat)) = true
  | [] => rfl
  | n :: ns => by
    show (noL _ && noLs _) = true
    rw [noL_nat ns]; rfl
theorem noL_nD (ns : List Nat) : noL (nD ns) = true := noL_nat ns
theorem wF_h (v1 v2 v3 v4 : V) : (webF v1 v2 v3 v4).lookup ("houses" : Str) = some v1 := by
  have h1 : ¬ (("houses" : Str) = "rooms") := by decide +kernel
  have h2 : ¬ (("houses" : Str) = "times") := by decide +kernel
  have h3 : ¬ (("houses" : Str) = "roads") := by decide +kernel
  unfold webF
  rw [lookup_putF, if_neg h2, lookup_putF, if_neg h1, lookup_putF, if_neg h3, lookup_putF, if_pos rfl]
theorem flat_int (ns : List Int) : (ns.map V.int).all flatV = true := by
  rw [List.all_eq_true]
  intro x hx
  obtain ⟨j, _, rfl⟩ := List.mem_map.mp hx
  rfl
theorem in_int (r : Int) : ∀ ns : List Int, inV (.int r) (ns.map V.int) = decide (r ∈ ns)
  | [] => by simp [inV]
  | n :: ns => by
    have ih := in_int r ns
    have e : inV (.int r) ((n :: ns).map V.int) = ((n == r) || inV (.int r) (ns.map V.int)) := rfl
    rw [e, ih]
    by_cases h : r = n
    · subst h; simp
    · have h3 : (n == r) = false := by simpa using fun z => h (Eq.symm z)
      rw [h3, Bool.false_or]
      by_cases h4 : r ∈ ns
      · rw [decide_eq_true h4, decide_eq_true (List.mem_cons_of_mem _ h4)]
      · rw [decide_eq_false h4, decide_eq_false (fun q => by rcases List.mem_cons.mp q with q | q; exact h q; exact h4 q)]
end Hc

set_option Elab.async false
set_option linter.all false
set_option maxRecDepth 100000
set_option maxHeartbeats 1000000
set_option autoImplicit false
namespace Hc
open PySem L2
/-- the pool: a list of two numbers and of the great cells -/
def PoolAt (H : Hp) (h c : Addr) : Prop := ∃ (s t : Int) (gs : List Int), H h = some (.lst [.int s, .int t, .ref c]) ∧ H c = some (.lst (gs.map V.int)) ∧ c ≠ h
/-- all but the pool is as it was -/
def Bt (h c : Addr) (H H' : Hp) : Prop := ∀ b o, H b = some o → b ≠ h → b ≠ c → H' b = some o
theorem Bt.refl (h c : Addr) (H : Hp) : Bt h c H H := fun _ _ e _ _ => e
theorem Bt.trans {h c : Addr} {H H1 H2 : Hp} (a : Bt h c H H1) (b : Bt h c H1 H2) : Bt h c H H2 := fun d o e n m => b d o (a d o e n m) n m
theorem Bt.of {h c : Addr} {H H' : Hp} (s : Same H H') : Bt h c H H' := fun b o e _ _ => s b o e
theorem bt_h {h c : Addr} {H : Hp} {o : HO} : Bt h c H (upd H h o) := fun b u e n _ => by rw [upd_ne n]; exact e
theorem bt_c {h c : Addr} {H : Hp} {o : HO} : Bt h c H (upd H c o) := fun b u e _ n => by rw [upd_ne n]; exact e
theorem Bt.nl {h c : Addr} {H H' : Hp} (k : Bt h c H H') (p : PoolAt H h c) : NL H H' := fun b o e n => by
  obtain ⟨s, t, gs, e1, e2, _⟩ := p
  exact k b o e (fun z => by subst z; rw [e1] at e; exact n _ (Option.some.inj e).symm) (fun z => by subst z; rw [e2] at e; exact n _ (Option.some.inj e).symm)
theorem PoolAt.same {H H' : Hp} {h c : Addr} (p : PoolAt H h c) (k : Same H H') : PoolAt H' h c := by
  obtain ⟨s, t, gs, e1, e2, n⟩ := p
  exact ⟨s, t, gs, k _ _ e1, k _ _ e2, n⟩
theorem PoolAt.ne {H : Hp} {h c : Addr} (p : PoolAt H h c) {D : Addr} (hD : H D = none) : D ≠ h ∧ D ≠ c := by
  obtain ⟨s, t, gs, e1, e2, _⟩ := p
  exact ⟨fun z => ne_of_none e1 hD z.symm, fun z => ne_of_none e2 hD z.symm⟩
theorem PoolAt.upd {H : Hp} {h c : Addr} (p : PoolAt H h c) {D : Addr} {o : HO} (n1 : D ≠ h) (n2 : D ≠ c) : PoolAt (upd H D o) h c := by
  obtain ⟨s, t, gs, e1, e2, n⟩ := p
  exact ⟨s, t, gs, by rw [upd_ne (Ne.symm n1)]; exact e1, by rw [upd_ne (Ne.symm n2)]; exact e2, n⟩
theorem Bt.free {h c : Addr} {H H' : Hp} (k : Bt h c H H') {D : Addr} (n1 : D ≠ h) (n2 : D ≠ c) (e : H' D = none) : H D = none := by
  cases q : H D with
  | none => rfl
  | some o => rw [k D o q n1 n2] at e; cases e
/-- with something new that changes -/
theorem Bt.upd {h c D : Addr} {H H' : Hp} {o : HO} (k : Bt h c H H') (hD : H D = none) : Bt h c H (upd H' D o) := fun b u e n m => by
  rw [upd_ne (ne_of_none e hD)]
  exact k _ _ e n m
theorem mod_range (x : Int) {m : Int} (h : 0 < m) : 0 ≤ x.fmod m ∧ x.fmod m < m := by
  rw [Int.fmod_eq_emod_of_nonneg x (by omega)]
  exact ⟨Int.emod_nonneg x (by omega), Int.emod_lt_of_pos x h⟩
theorem cutV_ints (ns : List Int) (lo hi : Option Int) : ∃ ms : List Int, cutV (ns.map V.int) lo hi = ms.map V.int ∧ ms.length ≤ ns.length := by
  refine ⟨(ns.drop (HT.sIx ns.length 0 lo)).take (HT.sIx ns.length ns.length hi - HT.sIx ns.length 0 lo), ?_, ?_⟩
  · unfold cutV
    rw [List.length_map, List.map_take, List.map_drop]
  · rw [List.length_take, List.length_drop]; omega
theorem seq0 {n : Nat} (h : 0 < n) : seqIndex? 0 n = some 0 := by
  unfold seqIndex?
  simp
  omega
theorem ixN0 {n : Nat} (h : 0 < n) : ixN n 0 = some 0 := by
  unfold ixN
  rw [if_pos (by decide), if_pos (by omega)]; rfl
section
variable {P : Program} {w : World} {K : PySem.W.Frag} {mg : Str → Option Value} {base : Heap}
def spDraw : Sp := fun vs H Q _ => ∃ (h c : Addr) (m : Int), vs = [.ref h, .int m] ∧ PoolAt H h c ∧ 0 < m ∧ m < 1000000 ∧
  ∀ n H', 0 ≤ n → n < m → PoolAt H' h c → Bt h c H H' → Q (.int n) H'
theorem ok__law_draw (T : Tx K mg) : FnOk P w K mg base CX0 1 T._law_draw.f T._law_draw.fd ["_law_pool_here", "_law_many"] spDraw := by
  refine T._law_draw.F.ok sc_law_draw (fun vs H Q E h => ?_) (fun cdv A outer s H vs Q E hr h => ?_)
  · obtain ⟨h, c, m, rfl, _⟩ := h
    rfl
  · obtain ⟨h, c, m, rfl, hA, m0, m1, k⟩ := h
    refine ⟨_, (pss_cons (ps_set (i := 2) sc_law_draw.nd rfl (Or.inl rfl) (pe_ix ix_list (pv 0) pe_int (fun _ _ => rfl)))
      (pss_cons (ps_if (pt_cmpR op_gt (pe_callB call_len_seq (by rfl) T.n_len (by decide +kernel) (pa_cons (pv 2) pa_nil)) pe_int (nomark _))
      (pss_cons (ps_set (i := 3) sc_law_draw.nd rfl (Or.inl rfl) (pe_op op_modN (pe_callTy call_int1 (by rfl) T.n_int (by decide +kernel) (pa_cons (pe_ix ix_list (pv 2) pe_int (fun _ _ => rfl)) pa_nil)) (pv 1)))
      (pss_cons (ps_asg (pe_op op_fdivN (pe_callTy call_int1 (by rfl) T.n_int (by decide +kernel) (pa_cons (pe_ix ix_list (pv 2) pe_int (fun _ _ => rfl)) pa_nil)) (pv 1)) (pg_sub (pv 2) pe_int set_list))
      (pss_cons (ps_if (pt_cmpR op_eq (pe_ix ix_list (pv 2) pe_int (fun _ _ => rfl)) pe_int (nomark _))
      (pss_one (ps_expr (pe_bm PySem.F.plainAttrs_list PySem.F.slot_list_pop PySem.F.type_list_pop mt_popAt (pv 2) (pa_cons pe_int pa_nil))))
      pss_nil)
      (pss_one (ps_ret (pv 3))))))
      pss_nil)
      (pss_cons (ps_asg (pe_op op_add (pe_ix ix_list (pv 0) pe_int (fun _ _ => rfl)) pe_int) (pg_sub (pv 0) pe_int set_list))
      (pss_cons (ps_set (i := 4) sc_law_draw.nd rfl (Or.inl rfl) (pe_op op_modN (pe_callTy call_int1 (by rfl) T.n_int (by decide +kernel) (pa_cons (pe_op op_mul (pe_op op_add (pe_ix ix_list (pv 0) pe_int (fun _ _ => rfl)) (pe_op op_mul pe_int (pe_ix ix_list (pv 0) pe_int (fun _ _ => rfl)))) pe_int) pa_nil)) pe_int))
      (pss_cons (ps_set (i := 4) sc_law_draw.nd rfl (Or.inl rfl) (pe_op op_modN (pe_callTy call_int1 (by rfl) T.n_int (by decide +kernel) (pa_cons (pe_op op_mul (pv 4) (pe_op op_add (pe_op op_fdivN (pv 4) pe_int) pe_int)) pa_nil)) pe_int))
      (pss_cons (ps_set (i := 4) sc_law_draw.nd rfl (Or.inl rfl) (pe_op op_modN (pe_callTy call_int1 (by rfl) T.n_int (by decide +kernel) (pa_cons (pe_op op_mul (pv 4) (pe_op op_add (pe_op op_fdivN (pv 4) pe_int) pe_int)) pa_nil)) pe_int))
      (pss_one (ps_ret (pe_op op_modN (pe_callTy call_int1 (by rfl) T.n_int (by decide +kernel) (pa_cons (pe_op op_fdivN (pv 4) pe_int) pa_nil)) (pv 1)))))))))), ?_⟩
    obtain ⟨s, t, gs, hh, hc, hn⟩ := id hA
    refine ⟨_, rfl, h, _, _, _, rfl, rfl, SqL.of hh, atI_nat (j := 2) rfl, _, rfl, c, _, rfl, .inl (SqL.of hc), _, _, rfl, rfl, _, rfl, ?_⟩
    rw [List.length_map]
    cases gs with
    | cons g gs =>
      rw [decide_eq_true (show (0 : Int) < (((g :: gs).length : Nat) : Int) by rw [List.length_cons]; omega)]
      refine iteT ?_
      obtain ⟨q1, q2⟩ := mod_range g m0
      refine ⟨_, rfl, c, _, _, _, rfl, rfl, SqL.of hc, atI_nat (j := 0) rfl, .inl ⟨_, rfl, _, rfl, _, _, rfl, rfl, by omega, ?_⟩⟩
      refine ⟨_, rfl, c, _, _, _, rfl, rfl, SqL.of hc, atI_nat (j := 0) rfl, .inl ⟨_, rfl, _, rfl, _, _, rfl, rfl, ⟨by omega, by omega⟩, _, rfl, c, _, 0, 0, rfl, rfl, hc, (by rw [List.length_map, List.length_cons]; exact ixN0 (Nat.succ_pos _)), ?_⟩⟩
      have b1 : Bt h c H (upd H c (.lst ((V.int (g.fdiv m)) :: gs.map V.int))) := bt_c
      have p1 : PoolAt (upd H c (.lst ((V.int (g.fdiv m)) :: gs.map V.int))) h c := ⟨s, t, g.fdiv m :: gs, by rw [upd_ne (Ne.symm hn)]; exact hh, upd_same, hn⟩
      refine ⟨_, rfl, c, _, _, _, rfl, rfl, SqL.of upd_same, atI_nat (j := 0) rfl, rfl, _, rfl, ite2 (fun _ => ?_) (fun _ => ?_)⟩
      · refine ⟨_, rfl, .inl ⟨rfl, _, SqL.of upd_same⟩, c, _, 0, 0, _, rfl, rfl, upd_same, by decide, by decide, seq0 (by rw [List.length_set, List.length_map, List.length_cons]; exact Nat.succ_pos _), rfl, ?_⟩
        refine ⟨_, rfl, k _ _ q1 q2 ⟨s, t, gs, ?_, upd_same, hn⟩ (b1.trans bt_c)⟩
        rw [upd_ne (Ne.symm hn), upd_ne (Ne.symm hn)]
        exact hh
      · exact ⟨_, rfl, k _ _ q1 q2 p1 b1⟩
    | nil =>
      rw [decide_eq_false (show ¬ (0 : Int) < ((([] : List Int).length : Nat) : Int) by simp)]
      refine iteF ?_
      have bt : ∀ {H1 : Hp} {xs}, Bt h c H H1 → Bt h c H (upd H1 h xs) := fun b => b.trans bt_h
      refine ⟨_, rfl, h, _, _, _, rfl, rfl, SqL.of hh, atI_nat (j := 1) rfl, _, _, rfl, rfl, _, rfl, h, _, 1, 1, rfl, rfl, hh, rfl, ?_⟩
      refine ⟨_, rfl, h, _, _, _, rfl, rfl, SqL.of upd_same, atI_nat (j := 0) rfl, _, rfl, h, _, _, _, rfl, rfl, SqL.of upd_same, atI_nat (j := 1) rfl, _, _, rfl, rfl, .inl ⟨by decide, by decide⟩, _, _, rfl, rfl, _, _, rfl, rfl, .inr ⟨by decide, by decide⟩, .inl ⟨_, rfl, _, _, rfl, rfl, (show (2147483647 : Int) ≠ 0 by decide), ?_⟩⟩
      obtain ⟨u1, u2⟩ := mod_range ((s + 7919 * (t + 1)) * 48271) (m := 2147483647) (by decide)
      obtain ⟨x, hx⟩ : ∃ x, x = ((s + 7919 * (t + 1)) * 48271).fmod 2147483647 := ⟨_, rfl⟩
      rw [← hx] at u1 u2
      refine ⟨_, rfl, _, rfl, _, _, rfl, rfl, ⟨by decide, by decide⟩, _, _, rfl, rfl, _, _, rfl, rfl, .inl ⟨by rw [← hx]; omega, by rw [← hx]; omega⟩, .inl ⟨_, rfl, _, _, rfl, rfl, (show (2147483647 : Int) ≠ 0 by decide), ?_⟩⟩
      rw [← hx]
      obtain ⟨u1, u2⟩ := mod_range (x * (x.fdiv 1009 + 69621)) (m := 2147483647) (by decide)
      obtain ⟨y, hy⟩ : ∃ y, y = (x * (x.fdiv 1009 + 69621)).fmod 2147483647 := ⟨_, rfl⟩
      rw [← hy] at u1 u2
      refine ⟨_, rfl, _, rfl, _, _, rfl, rfl, ⟨by decide, by decide⟩, _, _, rfl, rfl, _, _, rfl, rfl, .inl ⟨by rw [← hy]; omega, by rw [← hy]; omega⟩, .inl ⟨_, rfl, _, _, rfl, rfl, (show (2147483399 : Int) ≠ 0 by decide), ?_⟩⟩
      rw [← hy]
      refine ⟨_, rfl, _, _, rfl, rfl, ⟨by decide, by decide⟩, .inl ⟨_, rfl, _, rfl, _, _, rfl, rfl, by omega, ?_⟩⟩
      obtain ⟨q1, q2⟩ := mod_range (((y * (y.fdiv 2003 + 40692)).fmod 2147483399).fdiv 16) m0
      exact k _ _ q1 q2 ⟨s, t + 1, [], upd_same, by rw [upd_ne hn]; exact hc, hn⟩ (bt (Bt.refl h c H))
def spPool (K : PySem.W.Frag) : Sp := fun vs H Q _ => ∃ (a : Addr) (ns : List Int), vs = [.ref a] ∧ SqL K H a (ns.map V.int) ∧ ns.length ≤ 63 ∧
  ∀ h c H', Same H H' → PoolAt H' h c → Q (.ref h) H'
theorem ok__law_pool (T : Tx K mg) : FnOk P w K mg base CX0 1 T._law_pool.f T._law_pool.fd ["_law_script"] (spPool K) := by
  refine T._law_pool.F.ok sc_law_pool (fun vs H Q E h => ?_) (fun cdv A outer s H vs Q E hr h => ?_)
  · obtain ⟨a, ns, rfl, _⟩ := h
    rfl
  · obtain ⟨a, ns, rfl, hS, hl, k⟩ := h
    refine ⟨_, (pss_cons (ps_set (i := 1) sc_law_pool.nd rfl (Or.inl rfl) (pe_op op_add (pe_callB call_len_seq (by rfl) T.n_len (by decide +kernel) (pa_cons (pv 0) pa_nil)) pe_int))
      (pss_cons (ps_for PassesOwn.never rfl (pi_list (pe_slice sl_list (pv 0) po_none (po_some pe_int))) (pg_name (i := 2) sc_law_pool.nd rfl (Or.inl rfl))
      (pss_one (ps_set (i := 1) sc_law_pool.nd rfl (Or.inl rfl) (pe_op op_modN (pe_callTy call_int1 (by rfl) T.n_int (by decide +kernel) (pa_cons (pe_op op_add (pe_op op_add (pe_op op_mul (pv 1) pe_int) (pe_op op_modN (pe_callTy call_int1 (by rfl) T.n_int (by decide +kernel) (pa_cons (pv 2) pa_nil)) pe_int)) pe_int) pa_nil)) pe_int))))
      (pss_one (ps_ret (pe_lst (pa_cons (pv 1) (pa_cons pe_int (pa_cons (pe_lc (own := [("_law_cell", 2)]) (g := (gName 2))  rfl sc_law_pool.nd (pi_list (pe_slice sl_list (pv 0) po_none (po_some pe_int))) (blkOk_by (own := [("_law_cell", 2)]) (N := ["_law_script", "_law_seed", "_law_cell"]) (sc := defScope s_law_pool) (by decide +kernel)) (fun _ _ _ _ _ => (pg_name (i := 2) sc_law_pool.nd rfl (Or.inl rfl))) (fun _ _ _ _ _ => (pts_one (by exact (pt_cmpR op_ge (pe_callB call_abs (by rfl) T.n_abs (by decide +kernel) (pa_cons (pv 2) pa_nil)) (pe_op op_pow pe_int pe_int) (nomark _))))) (fun _ _ _ _ _ => (by exact (pe_callB call_abs (by rfl) T.n_abs (by decide +kernel) (pa_cons (pv 2) pa_nil))))) pa_nil)))))))), ?_⟩
    obtain ⟨ms, em, lm⟩ := cutV_ints ns none (some 63)
    refine ⟨_, rfl, a, _, rfl, .inl hS, _, _, rfl, rfl, ?_⟩
    rw [List.length_map]
    refine ⟨_, rfl, _, rfl, a, _, rfl, hS, fun p hp => ?_⟩
    rw [em]
    have s1 : Same H (upd H p (.lst (ms.map V.int))) := same_upd hp
    refine ⟨p, rfl, ⟨_, SqL.of upd_same⟩, for_list (xs := ms.map V.int) (fun i σ' H' => ∃ (sd : Int) (cv : Option V), σ' = [some (.ref a), some (.int sd), cv] ∧ 0 ≤ sd ∧ sd < 2147483647 ∧ Same (upd H p (.lst (ms.map V.int))) H')
      ⟨_, none, rfl, by omega, by omega, Same.refl _⟩ (fun i σ' H' _ ⟨_, _, _, _, _, s⟩ => SqL.of (s _ _ upd_same)) ?_ ?_⟩
    · rintro i x σ' H' hx ⟨sd, cv, rfl, d0, d1, s⟩
      obtain ⟨z, rfl⟩ : ∃ z, x = V.int z := by
        rw [List.getElem?_map] at hx
        cases e : ms[i]? with
        | none => rw [e] at hx; cases hx
        | some z => rw [e] at hx; exact ⟨z, (Option.some.inj hx).symm⟩
      obtain ⟨f0, f1⟩ := mod_range (sd * 48271 + z.fmod 2147483629 + 11) (m := 2147483647) (by decide)
      refine ⟨_, rfl, _, _, rfl, rfl, .inl ⟨by omega, by omega⟩, _, rfl, .inl ⟨_, rfl, _, _, rfl, rfl, (show (2147483629 : Int) ≠ 0 by decide), _, _, rfl, rfl, _, _, rfl, rfl, .inl ⟨_, rfl, _, _, rfl, rfl, (show (2147483647 : Int) ≠ 0 by decide), ?_⟩⟩⟩
      exact ⟨_, _, rfl, f0, f1, s⟩
    · rintro σ' H' ⟨sd, cv, rfl, d0, d1, s⟩
      have s2 := s1.trans s
      refine ⟨_, rfl, _, rfl, _, rfl, a, _, rfl, s2.seq hS, fun p2 hp2 => ?_⟩
      rw [em]
      have s3 : Same H' (upd H' p2 (.lst (ms.map V.int))) := same_upd hp2
      refine ⟨p2, rfl, ⟨_, SqL.of upd_same⟩, fun D hD => ?_⟩
      refine lc_list (K := K) (a := p2) (xs := ms.map V.int) (fun i H2 => ∃ ys : List Int, H2 D = some (.lst (ys.map V.int)) ∧ ys.length ≤ i ∧ Same (upd H' p2 (.lst (ms.map V.int))) H2)
        ⟨[], upd_same, Nat.le_refl _, same_upd hD⟩ (fun i H2 _ ⟨_, _, _, s⟩ => SqL.of (s _ _ upd_same)) ?_ ?_
      · rintro i x H2 hx ⟨ys, hd, hy, s4⟩
        have hi : i < (ms.map V.int).length := (List.getElem?_eq_some_iff.mp hx).1
        rw [List.length_map] at hi
        obtain ⟨z, rfl⟩ : ∃ z, x = V.int z := by
          rw [List.getElem?_map] at hx
          cases e : ms[i]? with
          | none => rw [e] at hx; cases hx
          | some z => rw [e] at hx; exact ⟨z, (Option.some.inj hx).symm⟩
        refine ⟨rfl, _, rfl, _, rfl, _, _, rfl, rfl, ⟨by decide, by decide, by decide⟩, _, _, rfl, rfl, _, rfl, ite2 (fun _ => ?_) (fun _ => ⟨ys, hd, by omega, s4⟩)⟩
        refine ⟨_, rfl, _, rfl, _, hd, ?_, ys ++ [if z < 0 then -z else z], ?_, ?_, ?_⟩
        · rw [List.length_map]; exact line_lt (by omega)
        · rw [upd_same, List.map_append]; rfl
        · rw [List.length_append]; show ys.length + 1 ≤ i + 1; omega
        · intro b o q
          rw [upd_ne (ne_of_none q hD)]
          exact s4 _ _ q
      · rintro H2 ⟨ys, hd, hy, s4⟩
        refine ⟨by show 3 ≤ sizeLine; decide, fun hh nh => ?_⟩
        have nD : D ≠ hh := ne_of_none hd nh
        refine k hh D _ (((s2.trans s3).trans s4).trans (same_upd nh)) ⟨_, _, ys, upd_same, by rw [upd_ne nD]; exact hd, nD⟩
end
end Hc

set_option Elab.async false
set_option linter.all false
set_option maxRecDepth 100000
set_option maxHeartbeats 1000000
set_option autoImplicit false
namespace Hc
open PySem L2
def PrV (H : Hp) (x : V) (p : Int × Int) : Prop := ∃ q, x = V.ref q ∧ H q = some (.tup [.int p.1, .int p.2])
inductive PrA (H : Hp) : List V → List (Int × Int) → Prop
  | nil : PrA H [] []
  | cons {x : V} {p : Int × Int} {xs : List V} {ps : List (Int × Int)} : PrV H x p → PrA H xs ps → PrA H (x :: xs) (p :: ps)
theorem PrV_nl {H H' : Hp} {x : V} {p : Int × Int} (a : PrV H x p) (k : NL H H') : PrV H' x p := by
  obtain ⟨q, e, h⟩ := a
  exact ⟨q, e, k.tup h⟩
theorem PrA.nl {H H' : Hp} (k : NL H H') : ∀ {xs : List V} {ps : List (Int × Int)}, PrA H xs ps → PrA H' xs ps
  | _, _, .nil => .nil
  | _, _, .cons a r => .cons (PrV_nl a k) (PrA.nl k r)
theorem PrA.app {H : Hp} : ∀ {xs ys : List V} {ps qs : List (Int × Int)}, PrA H xs ps → PrA H ys qs → PrA H (xs ++ ys) (ps ++ qs)
  | _, _, _, _, .nil, s => s
  | _, _, _, _, .cons a r, s => .cons a (PrA.app r s)
theorem PrA.len {H : Hp} : ∀ {xs : List V} {ps : List (Int × Int)}, PrA H xs ps → xs.length = ps.length
  | _, _, .nil => rfl
  | _, _, .cons a r => by rw [List.length_cons, List.length_cons, PrA.len r]
theorem PrA.take {H : Hp} : ∀ {xs : List V} {ps : List (Int × Int)} (n : Nat), PrA H xs ps → PrA H (xs.take n) (ps.take n)
  | _, _, 0, _ => .nil
  | _, _, _ + 1, .nil => .nil
  | _, _, n + 1, .cons a r => .cons a (PrA.take n r)
theorem PrA.get {H : Hp} : ∀ {xs : List V} {ps : List (Int × Int)} {i : Nat} {x : V}, PrA H xs ps → xs[i]? = some x → ∃ p, ps[i]? = some p ∧ PrV H x p
  | _, _, i, _, .nil, e => by simp at e
  | _, _, 0, _, .cons a r, e => by simp at e; subst e; exact ⟨_, rfl, a⟩
  | _, _, i + 1, v, .cons a r, e => by
    obtain ⟨d, h1, h2⟩ := PrA.get (i := i) (x := v) r (by simpa using e)
    exact ⟨d, by simpa using h1, h2⟩
def prD (p : Int × Int) : D := .tup [.int p.1, .int p.2]
theorem PrA.rp {H : Hp} {h : Addr} : ∀ {xs : List V} {ps : List (Int × Int)}, PrA H xs ps → RpA H h xs (ps.map prD)
  | _, _, .nil => .nil
  | _, _, .cons a r => by
    obtain ⟨q, rfl, e⟩ := a
    exact .cons (.tup e (by simp) (.cons (.int _) (.cons (.int _) .nil))) (PrA.rp r)
def Good (n : Int) (p : Int × Int) : Prop := 0 ≤ p.1 ∧ p.1 < n ∧ 0 ≤ p.2 ∧ p.2 < n ∧ p.1 ≠ p.2
theorem good_be {n : Int} {ps : List (Int × Int)} (g : ∀ p ∈ ps, Good n p) : (ps.map prD).all (isBE n) = true := by
  rw [List.all_eq_true]
  intro d hd
  obtain ⟨p, hp, rfl⟩ := List.mem_map.mp hd
  obtain ⟨a, b, c, d, e⟩ := g p hp
  exact be_of a b c d e
theorem good_app {n : Int} {ps qs : List (Int × Int)} (a : ∀ p ∈ ps, Good n p) (b : ∀ p ∈ qs, Good n p) : ∀ p ∈ ps ++ qs, Good n p := fun p hp => by
  rcases List.mem_append.mp hp with hp | hp
  · exact a p hp
  · exact b p hp
theorem good_one {n : Int} {q : Int × Int} (a : Good n q) : ∀ p ∈ [q], Good n p := fun p hp => by rw [List.mem_singleton] at hp; subst hp; exact a
section
variable {P : Program} {w : World} {K : PySem.W.Frag} {mg : Str → Option Value} {base : Heap}
/-- roads of n houses at F, a new list -/
structure NewRoads (H H' : Hp) (F : Addr) (n : Int) (m : Nat) : Prop where
  fr : H F = none
  ex : ∃ xs ps, H' F = some (.lst xs) ∧ PrA H' xs ps ∧ (∀ p ∈ ps, Good n p) ∧ ps.length = m
def spFree : Sp := fun vs H Q _ => ∃ (h c : Addr) (n m : Int), vs = [.ref h, .int n, .int m] ∧ PoolAt H h c ∧ 2 ≤ n ∧ n ≤ 1000 ∧ 0 ≤ m ∧ m ≤ 1000 ∧
  ∀ F H', PoolAt H' h c → Bt h c H H' → NewRoads H H' F n m.toNat → Q (.ref F) H'
theorem ok__law_free_roads (T : Tx K mg) : FnOk P w K mg base CX0 2 T._law_free_roads.f T._law_free_roads.fd ["_law_pool_here", "_law_houses", "_law_many"] spFree := by
  refine T._law_free_roads.F.ok sc_law_free_roads (fun vs H Q E h => ?_) (fun cdv A outer s H vs Q E hr h => ?_)
  · obtain ⟨h, c, n, m, rfl, _⟩ := h
    rfl
  · obtain ⟨h, c, n, m, rfl, hA, n0, n1, m0, m1, k⟩ := h
    refine ⟨_, (pss_cons (ps_set (i := 3) sc_law_free_roads.nd rfl (Or.inl rfl) (pe_lst pa_nil))
      (pss_cons (ps_for PassesOwn.never rfl (pi_range1 (by rfl) T.n_range (pa_cons (pv 2) pa_nil)) (pg_name (i := 4) sc_law_free_roads.nd rfl (Or.inl rfl))
      (pss_cons (ps_set (i := 5) sc_law_free_roads.nd rfl (Or.inl rfl) (pe_call (ok__law_draw T) (hr.mono (by decide)) rfl T._law_draw.g T._law_draw.F.kp T._law_draw.b .nil pass0 (pa_cons (pv 0) (pa_cons (pv 1) pa_nil))))
      (pss_cons (ps_set (i := 6) sc_law_free_roads.nd rfl (Or.inl rfl) (pe_call (ok__law_draw T) (hr.mono (by decide)) rfl T._law_draw.g T._law_draw.F.kp T._law_draw.b .nil pass0 (pa_cons (pv 0) (pa_cons (pe_op op_sub (pv 1) pe_int) pa_nil))))
      (pss_one (ps_expr (pe_bm PySem.F.plainAttrs_list PySem.F.slot_list_append PySem.F.type_list_append mt_append (pv 3) (pa_cons (pe_tup (pa_cons (pv 5) (pa_cons (pe_op op_add (pv 6) (pe_callTy call_int1 (by rfl) T.n_int (by decide +kernel) (pa_cons (pe_cmpR op_ge (pv 6) (pv 5) (nomark _)) pa_nil))) pa_nil))) pa_nil)))))))
      (pss_one (ps_ret (pv 3))))), ?_⟩
    refine ⟨by show 0 ≤ sizeLine; decide, fun F hF => ?_⟩
    obtain ⟨f1, f2⟩ := hA.ne hF
    refine ⟨_, rfl, m, rfl, by omega, by omega, for_range (lo := 0) (n := m.toNat) (fun i σ' H' => ∃ (kv bv ev : Option V) (xs : List V) (ps : List (Int × Int)), σ' = [some (.ref h), some (.int n), some (.int m), some (.ref F), kv, bv, ev] ∧ PoolAt H' h c ∧ Bt h c H H' ∧
        H' F = some (.lst xs) ∧ PrA H' xs ps ∧ (∀ p ∈ ps, Good n p) ∧ ps.length = i)
      ⟨none, none, none, [], [], rfl, hA.upd f1 f2, (Bt.refl h c H).upd hF, upd_same, .nil, fun _ z => (nomatch z), rfl⟩ ?_ ?_⟩
    · rintro i σ' H1 hi ⟨kv, bv, ev, xs, ps, rfl, p1, b1, e1, r1, g1, l1⟩
      refine ⟨_, rfl, _, rfl, h, c, n, rfl, p1, by omega, by omega, fun x H2 x0 x1 p2 b2 => ?_⟩
      refine ⟨_, rfl, _, rfl, _, _, rfl, rfl, h, c, n - 1, rfl, p2, by omega, by omega, fun y H3 y0 y1 p3 b3 => ?_⟩
      have e3 := b3 _ _ (b2 _ _ e1 f1 f2) f1 f2
      have r3 := (r1.nl (b2.nl p1)).nl (b3.nl p2)
      have l3 := r3.len
      refine ⟨_, rfl, .inl ⟨rfl, _, SqL.of e3⟩, _, rfl, _, rfl, _, rfl, _, rfl, _, _, rfl, rfl, .inr ⟨_, rfl, _, _, rfl, rfl, by show 2 ≤ sizeLine; decide, fun q hq => ?_⟩⟩
      have gd : Good n (x, y + (if decide (x ≤ y) = true then (1 : Int) else 0)) := by
        have : 0 ≤ y + (if decide (x ≤ y) = true then (1 : Int) else 0) ∧ y + (if decide (x ≤ y) = true then (1 : Int) else 0) < n ∧ x ≠ y + (if decide (x ≤ y) = true then (1 : Int) else 0) := by
          by_cases h : x ≤ y
          · rw [decide_eq_true h, if_pos rfl]; omega
          · rw [decide_eq_false h, if_neg (by decide)]; omega
        exact ⟨x0, x1, this.1, this.2.1, this.2.2⟩
      have s4 : Same H3 (upd H3 q (.tup [.int x, .int (y + (if decide (x ≤ y) = true then (1 : Int) else 0))])) := same_upd hq
      obtain ⟨q1, q2⟩ := p3.ne hq
      have e4 := s4 _ _ e3
      refine ⟨F, xs, _, rfl, rfl, e4, line_lt (by omega), ?_⟩
      refine ⟨_, _, _, xs ++ [.ref q], ps ++ [(x, y + (if decide (x ≤ y) = true then (1 : Int) else 0))], rfl, (p3.same s4).upd f1 f2, (((b1.trans b2).trans b3).trans (Bt.of s4)).upd hF, upd_same, ?_, good_app g1 (good_one gd), by rw [List.length_append, l1]; rfl⟩
      exact ((r3.nl (NL.of s4)).app (.cons ⟨q, rfl, upd_same⟩ .nil)).nl (NL.upd e4)
    · rintro σ' H1 ⟨kv, bv, ev, xs, ps, rfl, p1, b1, e1, r1, g1, l1⟩
      exact ⟨_, rfl, k F H1 p1 b1 ⟨hF, xs, ps, e1, r1, g1, l1⟩⟩
def spTree : Sp := fun vs H Q _ => ∃ (h c : Addr) (n : Int), vs = [.int n, .ref h] ∧ PoolAt H h c ∧ 2 ≤ n ∧ n ≤ 1000 ∧
  ∀ F H', PoolAt H' h c → Bt h c H H' → NewRoads H H' F n (n - 1).toNat → Q (.ref F) H'
theorem ok__law_tree_roads (T : Tx K mg) : FnOk P w K mg base CX0 2 T._law_tree_roads.f T._law_tree_roads.fd ["_law_houses", "_law_pool_here"] spTree := by
  refine T._law_tree_roads.F.ok sc_law_tree_roads (fun vs H Q E h => ?_) (fun cdv A outer s H vs Q E hr h => ?_)
  · obtain ⟨h, c, n, rfl, _⟩ := h
    rfl
  · obtain ⟨h, c, n, rfl, hA, n0, n1, k⟩ := h
    refine ⟨_, (pss_one (ps_ret (pe_lc (own := [("_law_house", 2)]) (g := (gName 2)) (tt := tYes) rfl sc_law_tree_roads.nd (pi_range2 (by rfl) T.n_range (pa_cons pe_int (pa_cons (pv 0) pa_nil))) (blkOk_by (own := [("_law_house", 2)]) (N := ["_law_houses", "_law_pool_here", "_law_house"]) (sc := defScope s_law_tree_roads) (by decide +kernel)) (fun _ _ _ _ _ => (pg_name (i := 2) sc_law_tree_roads.nd rfl (Or.inl rfl))) (fun _ _ _ _ _ => pts_nil) (fun _ _ _ _ _ => (by exact (pe_tup (pa_cons (pv 2) (pa_cons (pe_call (ok__law_draw T) (hr.mono (by decide)) rfl T._law_draw.g T._law_draw.F.kp T._law_draw.b .nil pass0 (pa_cons (pv 1) (pa_cons (pv 2) pa_nil))) pa_nil)))))))), ?_⟩
    refine ⟨_, rfl, 1, n, rfl, by omega, fun F hF => ?_⟩
    obtain ⟨f1, f2⟩ := hA.ne hF
    refine lc_range (lo := 1) (n := (n - 1).toNat) (fun i H' => ∃ (xs : List V) (ps : List (Int × Int)), PoolAt H' h c ∧ Bt h c H H' ∧ H' F = some (.lst xs) ∧ PrA H' xs ps ∧ (∀ p ∈ ps, Good n p) ∧ ps.length = i)
      ⟨[], [], hA.upd f1 f2, (Bt.refl h c H).upd hF, upd_same, .nil, fun _ z => (nomatch z), rfl⟩ ?_ ?_
    · rintro i H1 hi ⟨xs, ps, p1, b1, e1, r1, g1, l1⟩
      refine ⟨rfl, tyes ⟨_, rfl, _, rfl, _, rfl, h, c, 1 + (i : Int), rfl, p1, by omega, by omega, fun y H3 y0 y1 p3 b3 => ⟨by show 2 ≤ sizeLine; decide, fun q hq => ?_⟩⟩⟩
      have e3 := b3 _ _ e1 f1 f2
      have r3 := r1.nl (b3.nl p1)
      have l3 := r3.len
      have gd : Good n (1 + (i : Int), y) := ⟨by show 0 ≤ 1 + (i : Int); omega, by show 1 + (i : Int) < n; omega, y0, by show y < n; omega, by show 1 + (i : Int) ≠ y; omega⟩
      have s4 : Same H3 (upd H3 q (.tup [.int (1 + (i : Int)), .int y])) := same_upd hq
      have e4 := s4 _ _ e3
      refine ⟨xs, e4, line_lt (by omega), xs ++ [.ref q], ps ++ [(1 + (i : Int), y)], (p3.same s4).upd f1 f2, ((b1.trans b3).trans (Bt.of s4)).upd hF, upd_same, ?_, good_app g1 (good_one gd), by rw [List.length_append, l1]; rfl⟩
      exact ((r3.nl (NL.of s4)).app (.cons ⟨q, rfl, upd_same⟩ .nil)).nl (NL.upd e4)
    · rintro H1 ⟨xs, ps, p1, b1, e1, r1, g1, l1⟩
      exact k F H1 p1 b1 ⟨hF, xs, ps, e1, r1, g1, l1⟩
def ringP (n : Int) (m : Nat) : List (Int × Int) := (List.range m).map fun i => ((0 : Int) + (i : Nat), ((0 : Int) + (i : Nat) + 1).fmod n)
theorem ring_good {n : Int} (n0 : 2 ≤ n) {m : Nat} (hm : (m : Int) ≤ n) : ∀ p ∈ ringP n m, Good n p := fun p hp => by
  obtain ⟨i, hi, rfl⟩ := List.mem_map.mp hp
  have hi := List.mem_range.mp hi
  obtain ⟨f0, f1⟩ := mod_range (0 + (i : Int) + 1) (m := n) (by omega)
  have ne := ring_ne (b := 0 + (i : Int)) (x := 0) (n := n) (by omega) (by omega) (by omega) (by omega)
  rw [Int.add_zero] at ne
  exact ⟨by show 0 ≤ 0 + (i : Int); omega, by show 0 + (i : Int) < n; omega, f0, f1, ne⟩
theorem ring_len (n : Int) (m : Nat) : (ringP n m).length = m := by unfold ringP; rw [List.length_map, List.length_range]
theorem ring_snoc (n : Int) (m : Nat) : ringP n (m + 1) = ringP n m ++ [((0 : Int) + (m : Nat), ((0 : Int) + (m : Nat) + 1).fmod n)] := by
  unfold ringP
  rw [List.range_succ, List.map_append]; rfl
def spRing : Sp := fun vs H Q _ => ∃ (n : Int), vs = [.int n] ∧ 2 ≤ n ∧ n ≤ 1000 ∧ ∀ F H', Same H H' → NewRoads H H' F n n.toNat → (∃ xs, H' F = some (.lst xs) ∧ PrA H' xs (ringP n n.toNat)) → Q (.ref F) H'
theorem ok__law_ring_roads (T : Tx K mg) : FnOk P w K mg base CX0 1 T._law_ring_roads.f T._law_ring_roads.fd ["_law_houses"] spRing := by
  refine T._law_ring_roads.F.ok sc_law_ring_roads (fun vs H Q E h => ?_) (fun cdv A outer s H vs Q E hr h => ?_)
  · obtain ⟨n, rfl, _⟩ := h
    rfl
  · obtain ⟨n, rfl, n0, n1, k⟩ := h
    refine ⟨_, (pss_one (ps_ret (pe_lc (own := [("_law_house", 1)]) (g := (gName 1)) (tt := tYes) rfl sc_law_ring_roads.nd (pi_range1 (by rfl) T.n_range (pa_cons (pv 0) pa_nil)) (blkOk_by (own := [("_law_house", 1)]) (N := ["_law_houses", "_law_house"]) (sc := defScope s_law_ring_roads) (by decide +kernel)) (fun _ _ _ _ _ => (pg_name (i := 1) sc_law_ring_roads.nd rfl (Or.inl rfl))) (fun _ _ _ _ _ => pts_nil) (fun _ _ _ _ _ => (by exact (pe_tup (pa_cons (pv 1) (pa_cons (pe_op op_modN (pe_callTy call_int1 (by rfl) T.n_int (by decide +kernel) (pa_cons (pe_op op_add (pv 1) pe_int) pa_nil)) (pv 0)) pa_nil)))))))), ?_⟩
    refine ⟨_, rfl, n, rfl, by omega, by omega, fun F hF => ?_⟩
    refine lc_range (lo := 0) (n := n.toNat) (fun i H' => ∃ (xs : List V), Same H H' ∧ H' F = some (.lst xs) ∧ PrA H' xs (ringP n i))
      ⟨[], same_upd hF, upd_same, .nil⟩ ?_ ?_
    · rintro i H3 hi ⟨xs, s1, e3, r3⟩
      refine ⟨rfl, tyes ⟨_, rfl, _, rfl, _, _, rfl, rfl, .inl ⟨_, rfl, _, rfl, _, _, rfl, rfl, by omega, by show 2 ≤ sizeLine; decide, fun q hq => ?_⟩⟩⟩
      have l3 := r3.len
      rw [ring_len] at l3
      have s4 : Same H3 (upd H3 q (.tup [.int (0 + (i : Int)), .int ((0 + (i : Int) + 1).fmod n)])) := same_upd hq
      have e4 := s4 _ _ e3
      refine ⟨xs, e4, line_lt (by omega), xs ++ [.ref q], fun b o z => ?_, upd_same, ?_⟩
      · rw [upd_ne (ne_of_none z hF)]
        exact s4 _ _ (s1 _ _ z)
      · rw [ring_snoc]
        exact ((r3.nl (NL.of s4)).app (.cons ⟨q, rfl, upd_same⟩ .nil)).nl (NL.upd e4)
    · rintro H1 ⟨xs, s1, e1, r1⟩
      exact k F H1 s1 ⟨hF, xs, _, e1, r1, ring_good n0 (by omega), ring_len _ _⟩ ⟨xs, e1, r1⟩
end
end Hc

set_option Elab.async false
set_option linter.all false
set_option maxRecDepth 100000
set_option maxHeartbeats 1000000
set_option autoImplicit false
namespace Hc
open PySem L2
theorem cut_take {xs : List V} {k : Int} (h : 0 ≤ k) : cutV xs none (some k) = xs.take k.toNat := by
  have s1 : HT.sIx xs.length 0 none = 0 := rfl
  have s2 : HT.sIx xs.length xs.length (some k) = min k.toNat xs.length := by
    show (if k < 0 then (k + (xs.length : Int)).toNat else min k.toNat xs.length) = _
    rw [if_neg (by omega)]
  unfold cutV
  rw [s1, s2, List.drop_zero, Nat.sub_zero]
  by_cases q : k.toNat ≤ xs.length
  · rw [Nat.min_eq_left q]
  · rw [Nat.min_eq_right (by omega), List.take_of_length_le (Nat.le_refl _), List.take_of_length_le (by omega)]
theorem noL_int : ∀ ns : List Int, noLs (ns.map D.int) = true
  | [] => rfl
  | n :: ns => by
    show (noL _ && noLs _) = true
    rw [noL_int ns]; rfl
theorem noL_pr : ∀ ps : List (Int × Int), noLs (ps.map prD) = true
  | [] => rfl
  | n :: ns => by
    show (noL _ && noLs _) = true
    rw [noL_pr ns]; rfl
theorem btw_ints {m lo hi : Int} {ns : List Int} (hl : (ns.length : Int) = m) (hn : ∀ x ∈ ns, lo ≤ x ∧ x ≤ hi) : areBtw m lo hi (.tup (ns.map D.int)) = true := by
  rw [areBtw_tup, List.length_map, decide_eq_true hl, Bool.true_and, List.all_eq_true]
  intro d hd
  obtain ⟨x, hx, rfl⟩ := List.mem_map.mp hd
  exact btw_of (hn x hx).1 (hn x hx).2
/-- a drawn web's parts at v -/
structure WebP (H : Hp) (v : V) (n : Int) (ps : List (Int × Int)) (rm tm : List Int) : Prop where
  r : Rp H 0 v (.tup [.int n, .tup (ps.map prD), .tup (rm.map D.int), .tup (tm.map D.int)])
  n0 : 2 ≤ n
  n1 : n ≤ 12
  l0 : 1 ≤ ps.length
  l1 : ps.length ≤ 24
  g : ∀ p ∈ ps, Good n p
  a : areBtw ps.length 1 3 (.tup (rm.map D.int)) = true
  b : areBtw ps.length 1 3 (.tup (tm.map D.int)) = true
theorem WebP.nl {H H' : Hp} {v : V} {n : Int} {ps : List (Int × Int)} {rm tm : List Int} (x : WebP H v n ps rm tm) (k : NL H H') : WebP H' v n ps rm tm :=
  ⟨x.r.nl k (by simp only [noL, noLs, noL_pr, noL_int, Bool.and_true]), x.n0, x.n1, x.l0, x.l1, x.g, x.a, x.b⟩
theorem NewRoads.ne {H H' : Hp} {F : Addr} {n : Int} {m : Nat} (N : NewRoads H H' F n m) {h c : Addr} (p : PoolAt H h c) : F ≠ h ∧ F ≠ c := p.ne N.fr
/-- between the ifs -/
def WInv (h c : Addr) (n kd : Int) (H : Hp) : St → Hp → Prop := fun σ' H' => ∃ (F : Addr) (xs : List V) (ps : List (Int × Int)) (tv : Option V), σ' = [some (.ref h), some (.int 9), some (.int kd), some (.int n), some (.ref F), tv, none, none, none, none, none, none] ∧
  PoolAt H' h c ∧ Bt h c H H' ∧ F ≠ h ∧ F ≠ c ∧ H' F = some (.lst xs) ∧ PrA H' xs ps ∧ (∀ p ∈ ps, Good n p) ∧ 1 ≤ ps.length ∧ ps.length ≤ 10
/-- [1 + draw(3) * plain for road in roads] -/
theorem lc_cnt {K : PySem.W.Frag} {H0 : Hp} {h c F D1 : Addr} {xs : List V} {m : Nat} {te : TE} {σ : St} {vs : List Nat} {j : Nat} {Qd : Hp → Prop}
    (p0 : PoolAt H0 h c) (e0 : H0 F = some (.lst xs)) (f1 : F ≠ h) (f2 : F ≠ c) (hm : xs.length = m) (hz : m ≤ 1000) (hD : H0 D1 = none)
    (hw : ∀ x, wipe ((wipe σ vs).set j (some x)) vs = wipe σ vs)
    (he : ∀ v H' (Q : VK), PoolAt H' h c → (∀ z H'', 1 ≤ z → z ≤ 3 → PoolAt H'' h c → Bt h c H' H'' → Q (.int z) H'') → te ((wipe σ vs).set j (some v)) H' Q)
    (hd : ∀ H' (ns : List Int), PoolAt H' h c → Bt h c H0 H' → H' D1 = some (.lst (ns.map V.int)) → ns.length = m → (∀ x ∈ ns, (1 : Int) ≤ x ∧ x ≤ 3) → Qd H') :
    ∃ W : Nat → Nat → Hp → Prop, (∃ m, W 0 m (upd H0 D1 (.lst []))) ∧ ∀ i m H, W i m H →
      ((Itl K F).stop i H ∧ Qd H) ∨ ((Itl K F).go i H ∧ ∃ Nx : Hp → Prop, (∀ H', Nx H' → ∃ m', m' < m ∧ W (i + 1) m' H') ∧ ∀ x H', (Itl K F).yld i H x H' → (gName j) x (wipe σ vs) H' fun σ2 H2 => wipe σ2 vs = wipe σ vs ∧ tYes σ2 H2 fun b H3 =>
        if b = true then te σ2 H3 fun y H4 => ∃ acc, H4 D1 = some (.lst acc) ∧ acc.length < sizeLine ∧ Nx (upd H4 D1 (.lst (acc ++ [y]))) else Nx H3) := by
  obtain ⟨d1, d2⟩ := p0.ne hD
  refine lc_list (K := K) (a := F) (xs := xs) (fun i H' => ∃ ns : List Int, ns.length = i ∧ (∀ x ∈ ns, (1 : Int) ≤ x ∧ x ≤ 3) ∧ H' D1 = some (.lst (ns.map V.int)) ∧ PoolAt H' h c ∧ Bt h c H0 H')
    ⟨[], rfl, fun _ z => (nomatch z), upd_same, p0.upd d1 d2, (Bt.refl h c H0).upd hD⟩ (fun i H' _ ⟨_, _, _, _, _, b⟩ => SqL.of (b _ _ e0 f1 f2)) ?_ ?_
  · rintro i x H' hx ⟨ns, hl, hn, hd, p', b'⟩
    have hi : i < xs.length := (List.getElem?_eq_some_iff.mp hx).1
    refine ⟨hw x, tyes (he x H' _ p' fun z H3 z0 z1 p3 b3 => ⟨_, b3 _ _ hd d1 d2, ?_, ns ++ [z], ?_, ?_, ?_, p3.upd d1 d2, (b'.trans b3).upd hD⟩)⟩
    · rw [List.length_map]; exact line_lt (by omega)
    · rw [List.length_append, hl]; rfl
    · intro y hy
      rcases List.mem_append.mp hy with q | q
      · exact hn y q
      · rw [List.mem_singleton] at q; subst q; exact ⟨z0, z1⟩
    · rw [upd_same, List.map_append]; rfl
  · rintro H' ⟨ns, hl, hn, hd', p', b'⟩
    exact hd H' ns p' b' hd' (hl.trans hm) hn
theorem plain_range {y p : Int} (y0 : 0 ≤ y) (y1 : y < 3) (p0 : 0 ≤ p) (p1 : p < 2) : 1 ≤ 1 + y * p ∧ 1 + y * p ≤ 3 := by
  have : p = 0 ∨ p = 1 := by omega
  rcases this with rfl | rfl
  · rw [Int.mul_zero]; omega
  · rw [Int.mul_one]; omega
section
variable {P : Program} {w : World} {K : PySem.W.Frag} {mg : Str → Option Value} {base : Heap}
def spWebD : Sp := fun vs H Q _ => ∃ (h c : Addr), vs = [.ref h, .int 9] ∧ PoolAt H h c ∧ ∀ v n ps rm tm H', PoolAt H' h c → Bt h c H H' → WebP H' v n ps rm tm → Q v H'
theorem ok__law_web (T : Tx K mg) : FnOk P w K mg base CX0 3 T._law_web.f T._law_web.fd ["_law_pool_here", "_law_most"] spWebD := by
  refine T._law_web.F.ok sc_law_web (fun vs H Q E h => ?_) (fun cdv A outer s H vs Q E hr h => ?_)
  · obtain ⟨h, c, rfl, _⟩ := h
    rfl
  · obtain ⟨h, c, rfl, hA, k⟩ := h
    refine ⟨_, (pss_cons (ps_set (i := 2) sc_law_web.nd rfl (Or.inl rfl) (pe_call (ok__law_draw T) (hr.mono (by decide)) rfl T._law_draw.g T._law_draw.F.kp T._law_draw.b .nil pass0 (pa_cons (pv 0) (pa_cons pe_int pa_nil))))
      (pss_cons (ps_set (i := 3) sc_law_web.nd rfl (Or.inl rfl) (pe_op op_add pe_int (pe_call (ok__law_draw T) (hr.mono (by decide)) rfl T._law_draw.g T._law_draw.F.kp T._law_draw.b .nil pass0 (pa_cons (pv 0) (pa_cons pe_int pa_nil)))))
      (pss_cons (ps_set (i := 4) sc_law_web.nd rfl (Or.inl rfl) (pe_call (ok__law_free_roads T) (hr.mono (by decide)) rfl T._law_free_roads.g T._law_free_roads.F.kp T._law_free_roads.b .nil pass0 (pa_cons (pv 0) (pa_cons (pv 3) (pa_cons (pe_op op_add pe_int (pe_call (ok__law_draw T) (hr.mono (by decide)) rfl T._law_draw.g T._law_draw.F.kp T._law_draw.b .nil pass0 (pa_cons (pv 0) (pa_cons (pv 1) pa_nil)))) pa_nil)))))
      (C8.pss_cut (ps_if (pt_cmpR op_eq (pv 2) pe_int (nomark _))
      (pss_one (ps_set (i := 4) sc_law_web.nd rfl (Or.inl rfl) (pe_slice sl_list (pe_call (ok__law_ring_roads T) (hr.mono (by decide)) rfl T._law_ring_roads.g T._law_ring_roads.F.kp T._law_ring_roads.b .nil pass0 (pa_cons (pv 3) pa_nil)) po_none (po_some (pe_op op_sub (pv 3) (pe_call (ok__law_draw T) (hr.mono (by decide)) rfl T._law_draw.g T._law_draw.F.kp T._law_draw.b .nil pass0 (pa_cons (pv 0) (pa_cons pe_int pa_nil))))))))
      pss_nil)
      (C8.pss_cut (ps_if (pt_cmpR op_eq (pv 2) pe_int (nomark _))
      (pss_one (ps_set (i := 4) sc_law_web.nd rfl (Or.inl rfl) (pe_call (ok__law_tree_roads T) (hr.mono (by decide)) rfl T._law_tree_roads.g T._law_tree_roads.F.kp T._law_tree_roads.b .nil pass0 (pa_cons (pv 3) (pa_cons (pv 0) pa_nil)))))
      pss_nil)
      (C8.pss_cut (ps_if (pt_cmpR op_eq (pv 2) pe_int (nomark _))
      (pss_cons (ps_set (i := 5) sc_law_web.nd rfl (Or.inl rfl) (pe_slice sl_list (pe_call (ok__law_tree_roads T) (hr.mono (by decide)) rfl T._law_tree_roads.g T._law_tree_roads.F.kp T._law_tree_roads.b .nil pass0 (pa_cons (pv 3) (pa_cons (pv 0) pa_nil))) po_none (po_some (pe_op op_add (pe_op op_fdivN (pv 1) pe_int) pe_int))))
      (pss_one (ps_set (i := 4) sc_law_web.nd rfl (Or.inl rfl) (pe_op op_cat (pv 5) (pe_lc (own := [("_law_begin", 9), ("_law_end", 10)]) (g := (gTup K 2 (gCons (gName 9) (gCons (gName 10) gNil)))) (tt := tYes) rfl sc_law_web.nd (pi_list (pv 5)) (blkOk_by (own := [("_law_begin", 9), ("_law_end", 10)]) (N := ["_law_pool_here", "_law_most", "_law_kind", "_law_houses", "_law_roads", "_law_ties", "_law_plain", "_law_rooms", "_law_times", "_law_begin", "_law_end", "_law_road"]) (sc := defScope s_law_web) (by decide +kernel)) (fun _ _ _ _ _ => (pg_tup (by rfl) (pgs_cons (pg_name (i := 9) sc_law_web.nd rfl (Or.inl rfl)) (pgs_cons (pg_name (i := 10) sc_law_web.nd rfl (Or.inl rfl)) pgs_nil)))) (fun _ _ _ _ _ => pts_nil) (fun _ _ _ _ _ => (by exact (pe_tup (pa_cons (pv 10) (pa_cons (pv 9) pa_nil))))))))))
      pss_nil)
      (C8.pss_cut (ps_if (pt_cmpR op_eq (pv 2) pe_int (nomark _))
      (pss_one (ps_set (i := 4) sc_law_web.nd rfl (Or.inl rfl) (pe_op op_cat (pe_call (ok__law_ring_roads T) (hr.mono (by decide)) rfl T._law_ring_roads.g T._law_ring_roads.F.kp T._law_ring_roads.b .nil pass0 (pa_cons (pv 3) pa_nil)) (pe_slice sl_list (pv 4) po_none (po_some pe_int)))))
      pss_nil)
      (pss_cons (ps_set (i := 6) sc_law_web.nd rfl (Or.inr rfl) (pe_call (ok__law_draw T) (hr.mono (by decide)) rfl T._law_draw.g T._law_draw.F.kp T._law_draw.b .nil pass0 (pa_cons (pv 0) (pa_cons pe_int pa_nil))))
      (pss_cons (ps_set (i := 7) sc_law_web.nd rfl (Or.inl rfl) (pe_callTy call_tuple_of (by rfl) T.n_tuple (by decide +kernel) (pa_cons (pe_lc (own := [("_law_road", 11)]) (g := (gName 11)) (tt := tYes) rfl sc_law_web.nd (pi_list (pv 4)) (blkOk_by (own := [("_law_road", 11)]) (N := ["_law_pool_here", "_law_most", "_law_kind", "_law_houses", "_law_roads", "_law_ties", "_law_plain", "_law_rooms", "_law_times", "_law_begin", "_law_end", "_law_road"]) (sc := defScope s_law_web) (by decide +kernel)) (fun _ _ _ _ _ => (pg_name (i := 11) sc_law_web.nd rfl (Or.inl rfl))) (fun _ _ _ _ _ => pts_nil) (fun _ _ _ _ _ => (by exact (pe_op op_add pe_int (pe_op op_mul (pe_call (ok__law_draw T) (hr.mono (by decide)) rfl T._law_draw.g T._law_draw.F.kp T._law_draw.b .nil pass0 (pa_cons (pv 0) (pa_cons pe_int pa_nil))) (pv 6)))))) pa_nil)))
      (pss_cons (ps_set (i := 8) sc_law_web.nd rfl (Or.inl rfl) (pe_callTy call_tuple_of (by rfl) T.n_tuple (by decide +kernel) (pa_cons (pe_lc (own := [("_law_road", 11)]) (g := (gName 11)) (tt := tYes) rfl sc_law_web.nd (pi_list (pv 4)) (blkOk_by (own := [("_law_road", 11)]) (N := ["_law_pool_here", "_law_most", "_law_kind", "_law_houses", "_law_roads", "_law_ties", "_law_plain", "_law_rooms", "_law_times", "_law_begin", "_law_end", "_law_road"]) (sc := defScope s_law_web) (by decide +kernel)) (fun _ _ _ _ _ => (pg_name (i := 11) sc_law_web.nd rfl (Or.inl rfl))) (fun _ _ _ _ _ => pts_nil) (fun _ _ _ _ _ => (by exact (pe_op op_add pe_int (pe_op op_mul (pe_call (ok__law_draw T) (hr.mono (by decide)) rfl T._law_draw.g T._law_draw.F.kp T._law_draw.b .nil pass0 (pa_cons (pv 0) (pa_cons pe_int pa_nil))) (pv 6)))))) pa_nil)))
      (pss_one (ps_ret (pe_tup (pa_cons (pv 3) (pa_cons (pe_callTy call_tuple_of (by rfl) T.n_tuple (by decide +kernel) (pa_cons (pv 4) pa_nil)) (pa_cons (pv 7) (pa_cons (pv 8) pa_nil))))))))))))))))), ?_⟩
    refine ⟨_, rfl, h, c, 6, rfl, hA, by decide, by decide, fun kd H1 _ _ p1 b1 => ?_⟩
    refine ⟨_, rfl, h, c, 5, rfl, p1, by decide, by decide, fun x H2 x0 x1 p2 b2 => ⟨_, _, rfl, rfl, ?_⟩⟩
    refine ⟨_, rfl, _, rfl, _, rfl, _, rfl, h, c, 9, rfl, p2, by decide, by decide, fun y H3 y0 y1 p3 b3 => ⟨_, _, rfl, rfl, h, c, 2 + x, 1 + y, rfl, p3, by omega, by omega, by omega, by omega, fun F H4 p4 b4 N4 => ?_⟩⟩
    have n0 : 2 ≤ 2 + x := by omega
    have n1 : 2 + x ≤ 6 := by omega
    have start : WInv h c (2 + x) kd H [some (.ref h), some (.int 9), some (.int kd), some (.int (2 + x)), some (.ref F), none, none, none, none, none, none, none] H4 := by
      obtain ⟨f1, f2⟩ := N4.ne p3
      obtain ⟨xs, ps, e, r, g, l⟩ := N4.ex
      exact ⟨F, xs, ps, none, rfl, p4, ((b1.trans b2).trans b3).trans b4, f1, f2, e, r, g, by omega, by omega⟩
    clear N4 p4 b4 p3 b3 p2 b2 p1 b1 hA
    refine ⟨WInv h c (2 + x) kd H, ?_, ?_⟩
    · obtain ⟨_, _, _, _, e0, p1, b1, f1, f2, e1, r1, g1, l1, l2⟩ := id start
      refine ⟨_, rfl, rfl, _, rfl, ite2 (fun _ => ?_) (fun _ => start)⟩
      refine ⟨_, rfl, 2 + x, rfl, n0, by omega, fun F5 H5 s5 N5 _ => ⟨_, rfl, _, rfl, h, c, 2, rfl, p1.same s5, by decide, by decide, fun d H6 d0 d1 p6 b6 => ⟨_, _, rfl, rfl, ?_⟩⟩⟩
      obtain ⟨f3, f4⟩ := N5.ne p1
      obtain ⟨ys, qs, e, r, g, l⟩ := N5.ex
      have e6 := b6 _ _ e f3 f4
      have r6 := r.nl (b6.nl (p1.same s5))
      refine ⟨_, rfl, F5, ys, rfl, SqL.of e6, fun q hq => ?_⟩
      obtain ⟨f5, f6⟩ := p6.ne hq
      rw [cut_take (by omega)]
      refine ⟨q, _, qs.take (2 + x - d).toNat, _, rfl, p6.upd f5 f6, (b1.trans ((Bt.of s5).trans b6)).trans (Bt.of (same_upd hq)), f5, f6, upd_same, (r6.take _).nl (NL.of (same_upd hq)), fun p hp => g p (List.mem_of_mem_take hp), ?_, ?_⟩
      · rw [List.length_take]; omega
      · rw [List.length_take]; omega
    clear start F H4
    rintro σ1 H4 ⟨F, xs, ps, tv, rfl, p4, b4, f1, f2, e4, r4, g4, l4, m4⟩
    refine ⟨WInv h c (2 + x) kd H, ?_, ?_⟩
    · refine ⟨_, rfl, rfl, _, rfl, ite2 (fun _ => ?_) (fun _ => ⟨F, xs, ps, tv, rfl, p4, b4, f1, f2, e4, r4, g4, l4, m4⟩)⟩
      refine ⟨_, rfl, _, rfl, h, c, 2 + x, rfl, p4, n0, by omega, fun F5 H5 p5 b5 N5 => ?_⟩
      obtain ⟨f3, f4⟩ := N5.ne p4
      obtain ⟨ys, qs, e, r, g, l⟩ := N5.ex
      exact ⟨F5, ys, qs, _, rfl, p5, b4.trans b5, f3, f4, e, r, g, by omega, by omega⟩
    clear e4 r4 g4 l4 m4 f1 f2 p4 b4
    clear F xs ps tv H4
    rintro σ1 H4 ⟨F, xs, ps, tv, rfl, p4, b4, f1, f2, e4, r4, g4, l4, m4⟩
    refine ⟨WInv h c (2 + x) kd H, ?_, ?_⟩
    · refine ⟨_, rfl, rfl, _, rfl, ite2 (fun _ => ?_) (fun _ => ⟨F, xs, ps, tv, rfl, p4, b4, f1, f2, e4, r4, g4, l4, m4⟩)⟩
      refine ⟨_, rfl, _, rfl, h, c, 2 + x, rfl, p4, n0, by omega, fun F5 H5 p5 b5 N5 => ⟨_, rfl, _, _, rfl, rfl, ⟨by decide, by decide⟩, _, _, rfl, rfl, ?_⟩⟩
      obtain ⟨f3, f4⟩ := N5.ne p4
      obtain ⟨ys, qs, e, r, g, l⟩ := N5.ex
      refine ⟨_, rfl, F5, ys, rfl, SqL.of e, fun q hq => ?_⟩
      rw [cut_take (by decide)]
      obtain ⟨f5, f6⟩ := p5.ne hq
      have s6 : Same H5 (upd H5 q (.lst (ys.take (Int.fdiv 9 2 + 1).toNat))) := same_upd hq
      have r6 := (r.take (Int.fdiv 9 2 + 1).toNat).nl (NL.of s6)
      have t5 : (Int.fdiv 9 2 + 1).toNat = 5 := by decide
      rw [t5] at s6 r6 ⊢
      have g6 : ∀ p ∈ qs.take 5, Good (2 + x) p := fun p hp => g p (List.mem_of_mem_take hp)
      have l6 : (qs.take 5).length ≤ 5 := by rw [List.length_take]; omega
      have l7 : 1 ≤ (qs.take 5).length := by rw [List.length_take]; omega
      refine ⟨_, rfl, _, rfl, q, rfl, ⟨_, SqL.of upd_same⟩, fun D1 hD1 => ?_⟩
      refine lc_list (K := K) (a := q) (xs := ys.take 5) (fun i H' => ∃ (zs : List V) (us : List (Int × Int)), Same (upd H5 q (.lst (ys.take 5))) H' ∧ H' D1 = some (.lst zs) ∧ PrA H' zs us ∧ (∀ p ∈ us, Good (2 + x) p) ∧ us.length = i)
        ⟨[], [], same_upd hD1, upd_same, .nil, fun _ z => (nomatch z), rfl⟩ (fun i H' _ ⟨_, _, s, _⟩ => SqL.of (s _ _ upd_same)) ?_ ?_
      · rintro i v H' hv ⟨zs, us, s, e8, r8, g8, l8⟩
        obtain ⟨pp, hp1, qq, rfl, eq⟩ := r6.get hv
        have gp := g6 pp (List.mem_of_getElem? hp1)
        have hi : i < (qs.take 5).length := (List.getElem?_eq_some_iff.mp hp1).1
        have lz := r8.len
        refine ⟨qq, _, rfl, SqT.of (s _ _ eq), rfl, _, _, rfl, _, _, rfl, rfl, rfl, tyes ⟨_, rfl, _, rfl, by show 2 ≤ sizeLine; decide, fun u hu => ?_⟩⟩
        have s9 : Same H' (upd H' u (.tup [.int pp.2, .int pp.1])) := same_upd hu
        have e9 := s9 _ _ e8
        refine ⟨zs, e9, line_lt (by omega), zs ++ [.ref u], us ++ [(pp.2, pp.1)], fun b o z => ?_, upd_same, ?_, good_app g8 (good_one ⟨gp.2.2.1, gp.2.2.2.1, gp.1, gp.2.1, fun z => gp.2.2.2.2 z.symm⟩), by rw [List.length_append, l8]; rfl⟩
        · rw [upd_ne (ne_of_none z hD1)]
          exact s9 _ _ (s _ _ z)
        · exact ((r8.nl (NL.of s9)).app (.cons ⟨u, rfl, upd_same⟩ .nil)).nl (NL.upd e9)
      · rintro H' ⟨zs, us, s, e8, r8, g8, l8⟩
        have lt := r6.len
        have lz := r8.len
        refine ⟨q, D1, ys.take 5, zs, rfl, rfl, s _ _ upd_same, e8, line_le (by omega), fun u hu => ?_⟩
        have p8 : PoolAt H' h c := (p5.same s6).same s
        obtain ⟨f7, f8⟩ := p8.ne hu
        have s9 : Same H' (upd H' u (.lst (ys.take 5 ++ zs))) := same_upd hu
        refine ⟨u, _, qs.take 5 ++ us, _, rfl, p8.upd f7 f8, (b4.trans b5).trans (Bt.of ((s6.trans s).trans s9)), f7, f8, upd_same, (((r6.nl (NL.of s)).app r8)).nl (NL.of s9), good_app g6 g8, ?_, ?_⟩
        · rw [List.length_append]; omega
        · rw [List.length_append]; omega
    clear e4 r4 g4 l4 m4 f1 f2 p4 b4
    clear F xs ps tv H4
    rintro σ1 H4 ⟨F, xs, ps, tv, rfl, p4, b4, f1, f2, e4, r4, g4, l4, m4⟩
    refine ⟨WInv h c (2 + x) kd H, ?_, ?_⟩
    · refine ⟨_, rfl, rfl, _, rfl, ite2 (fun _ => ?_) (fun _ => ⟨F, xs, ps, tv, rfl, p4, b4, f1, f2, e4, r4, g4, l4, m4⟩)⟩
      refine ⟨_, rfl, 2 + x, rfl, n0, by omega, fun F5 H5 s5 N5 _ => ?_⟩
      obtain ⟨ys, qs, e, r, g, l⟩ := N5.ex
      refine ⟨_, rfl, _, rfl, F, xs, rfl, SqL.of (s5 _ _ e4), fun q hq => ?_⟩
      rw [cut_take (by decide)]
      have s6 : Same H5 (upd H5 q (.lst (xs.take (2 : Int).toNat))) := same_upd hq
      have r6 := ((r4.nl (NL.of s5)).take (2 : Int).toNat).nl (NL.of s6)
      have l6 : (ps.take (2 : Int).toNat).length ≤ 2 := by rw [List.length_take]; show min 2 _ ≤ 2; omega
      have lr := r6.len
      have ly := r.len
      refine ⟨F5, q, ys, _, rfl, rfl, s6 _ _ e, upd_same, line_le (by omega), fun u hu => ?_⟩
      have p8 : PoolAt (upd H5 q (.lst (xs.take (2 : Int).toNat))) h c := (p4.same s5).same s6
      obtain ⟨f7, f8⟩ := p8.ne hu
      have s9 := same_upd (o := .lst (ys ++ xs.take (2 : Int).toNat)) hu
      refine ⟨u, _, qs ++ ps.take (2 : Int).toNat, _, rfl, p8.upd f7 f8, b4.trans (Bt.of ((s5.trans s6).trans s9)), f7, f8, upd_same, ((r.nl (NL.of s6)).app r6).nl (NL.of s9), good_app g (fun p hp => g4 p (List.mem_of_mem_take hp)), ?_, ?_⟩
      · rw [List.length_append]; omega
      · rw [List.length_append]; omega
    clear e4 r4 g4 l4 m4 f1 f2 p4 b4
    clear F xs ps tv H4
    rintro σ1 H4 ⟨F, xs, ps, tv, rfl, p4, b4, f1, f2, e4, r4, g4, l4, m4⟩
    have lx := r4.len
    refine ⟨_, rfl, h, c, 2, rfl, p4, by decide, by decide, fun pl H5 q0 q1 p5 b5 => ?_⟩
    have e5 := b5 _ _ e4 f1 f2
    have r5 := r4.nl (b5.nl p4)
    refine ⟨_, rfl, F, rfl, ⟨_, SqL.of e5⟩, fun D1 hD1 => lc_cnt (m := ps.length) p5 e5 f1 f2 lx (by omega) hD1 (fun x => rfl) (fun v H' Q' p' kz => ?_) (fun H6 ms p6 b6 e6 lm hm => ?_)⟩
    · exact ⟨_, rfl, h, c, 3, rfl, p', by decide, by decide, fun y H3 y0 y1 p3 b3 => ⟨_, rfl, _, _, rfl, rfl, .inl ⟨by omega, by omega⟩, _, _, rfl, rfl, kz _ _ (plain_range y0 y1 q0 q1).1 (plain_range y0 y1 q0 q1).2 p3 b3⟩⟩
    refine ⟨_, _, rfl, .inl ⟨SqL.of e6, fun q hq => ?_⟩⟩
    have s7 : Same H6 (upd H6 q (.tup (ms.map V.int))) := same_upd hq
    have t7 : (upd H6 q (.tup (ms.map V.int))) q = some (.tup (ms.map V.int)) := upd_same
    generalize upd H6 q (.tup (ms.map V.int)) = H7 at s7 t7 ⊢
    have p7 := p6.same s7
    have e7 := s7 _ _ (b6 _ _ e5 f1 f2)
    have r7 := (r5.nl (b6.nl p5)).nl (NL.of s7)
    have rq : Rp H7 0 (.ref q) (.tup (ms.map D.int)) := .tup t7 (by rw [List.length_map]; omega) (RpA.ints ms)
    refine ⟨_, rfl, F, rfl, ⟨_, SqL.of e7⟩, fun D2 hD2 => lc_cnt (m := ps.length) p7 e7 f1 f2 lx (by omega) hD2 (fun x => rfl) (fun v H' Q' p' kz => ?_) (fun H8 us p8 b8 e8 lu hu => ?_)⟩
    · exact ⟨_, rfl, h, c, 3, rfl, p', by decide, by decide, fun y H3 y0 y1 p3 b3 => ⟨_, rfl, _, _, rfl, rfl, .inl ⟨by omega, by omega⟩, _, _, rfl, rfl, kz _ _ (plain_range y0 y1 q0 q1).1 (plain_range y0 y1 q0 q1).2 p3 b3⟩⟩
    refine ⟨_, _, rfl, .inl ⟨SqL.of e8, fun u hu2 => ?_⟩⟩
    have s9 : Same H8 (upd H8 u (.tup (us.map V.int))) := same_upd hu2
    have t9 : (upd H8 u (.tup (us.map V.int))) u = some (.tup (us.map V.int)) := upd_same
    generalize upd H8 u (.tup (us.map V.int)) = H9 at s9 t9 ⊢
    have p9 := p8.same s9
    have e9 := s9 _ _ (b8 _ _ e7 f1 f2)
    have r9 := (r7.nl (b8.nl p7)).nl (NL.of s9)
    have rq9 := (rq.nl (b8.nl p7) (noL_int ms)).nl (NL.of s9) (noL_int ms)
    have ru9 : Rp H9 0 (.ref u) (.tup (us.map D.int)) := .tup t9 (by rw [List.length_map]; omega) (RpA.ints us)
    refine ⟨_, rfl, _, rfl, F, xs, rfl, .inl ⟨SqL.of e9, fun t ht => ?_⟩⟩
    have s10 : Same H9 (upd H9 t (.tup xs)) := same_upd ht
    have t10 : (upd H9 t (.tup xs)) t = some (.tup xs) := upd_same
    generalize upd H9 t (.tup xs) = H10 at s10 t10 ⊢
    refine ⟨_, rfl, _, rfl, by show 4 ≤ sizeLine; decide, fun z hz => ?_⟩
    have s11 : Same H10 (upd H10 z (.tup [.int (2 + x), .ref t, .ref q, .ref u])) := same_upd hz
    have t11 : (upd H10 z (.tup [.int (2 + x), .ref t, .ref q, .ref u])) z = some (.tup [.int (2 + x), .ref t, .ref q, .ref u]) := upd_same
    generalize upd H10 z (.tup [.int (2 + x), .ref t, .ref q, .ref u]) = H11 at s11 t11 ⊢
    refine k (.ref z) (2 + x) ps ms us H11 ((p9.same s10).same s11) ?_ ⟨?_, n0, by omega, l4, by omega, g4, btw_ints (by omega) hm, btw_ints (by omega) hu⟩
    · exact b4.trans (b5.trans (b6.trans ((Bt.of s7).trans (b8.trans (Bt.of ((s9.trans s10).trans s11))))))
    · refine .tup t11 (by simp) (.cons (.int _) (.cons (.tup (s11 _ _ t10) (by omega) ?_) (.cons ((rq9.same s10).same s11) (.cons ((ru9.same s10).same s11) .nil))))
      exact (r9.nl (NL.of (s10.trans s11))).rp
theorem ok__law_great_web (T : Tx K mg) : FnOk P w K mg base CX0 3 T._law_great_web.f T._law_great_web.fd ["_law_pool_here"] (fun vs H Q E => ∃ h, vs = [.ref h] ∧ spWebD [.ref h, .int 9] H Q E) := by
  refine T._law_great_web.F.ok sc_law_great_web (fun vs H Q E h => ?_) (fun cdv A outer s H vs Q E hr h => ?_)
  · obtain ⟨h, rfl, _⟩ := h
    rfl
  · obtain ⟨h0, rfl, h, c, eh, hA, k⟩ := h
    obtain rfl : h0 = h := by injection (List.cons.inj eh).1
    refine ⟨_, (pss_cons (ps_set (i := 1) sc_law_great_web.nd rfl (Or.inl rfl) (pe_op op_add pe_int (pe_call (ok__law_draw T) (hr.mono (by decide)) rfl T._law_draw.g T._law_draw.F.kp T._law_draw.b .nil pass0 (pa_cons (pv 0) (pa_cons pe_int pa_nil)))))
      (pss_cons (ps_set (i := 2) sc_law_great_web.nd rfl (Or.inl rfl) (pe_call (ok__law_free_roads T) (hr.mono (by decide)) rfl T._law_free_roads.g T._law_free_roads.F.kp T._law_free_roads.b .nil pass0 (pa_cons (pv 0) (pa_cons (pv 1) (pa_cons (pe_op op_add pe_int (pe_call (ok__law_draw T) (hr.mono (by decide)) rfl T._law_draw.g T._law_draw.F.kp T._law_draw.b .nil pass0 (pa_cons (pv 0) (pa_cons pe_int pa_nil)))) pa_nil)))))
      (pss_cons (ps_set (i := 3) sc_law_great_web.nd rfl (Or.inl rfl) (pe_op op_repA (pe_tup (pa_cons pe_int pa_nil)) (pe_callB call_len_seq (by rfl) T.n_len (by decide +kernel) (pa_cons (pv 2) pa_nil))))
      (pss_one (ps_ret (pe_tup (pa_cons (pv 1) (pa_cons (pe_callTy call_tuple_of (by rfl) T.n_tuple (by decide +kernel) (pa_cons (pv 2) pa_nil)) (pa_cons (pv 3) (pa_cons (pv 3) pa_nil)))))))))), ?_⟩
    refine ⟨_, rfl, h0, c, 7, rfl, hA, by decide, by decide, fun x H1 x0 x1 p1 b1 => ⟨_, _, rfl, rfl, ?_⟩⟩
    refine ⟨_, rfl, _, rfl, _, rfl, h0, c, 16, rfl, p1, by decide, by decide, fun y H2 y0 y1 p2 b2 => ⟨_, _, rfl, rfl, h0, c, 6 + x, 9 + y, rfl, p2, by omega, by omega, by omega, by omega, fun F H3 p3 b3 N3 => ?_⟩⟩
    obtain ⟨f1, f2⟩ := N3.ne p2
    obtain ⟨xs, ps, e3, r3, g3, l3⟩ := N3.ex
    have lx := r3.len
    refine ⟨by show 1 ≤ sizeLine; decide, fun q hq => ?_⟩
    have s4 : Same H3 (upd H3 q (.tup [.int 1])) := same_upd hq
    have t4 : (upd H3 q (.tup [.int 1])) q = some (.tup [.int 1]) := upd_same
    generalize upd H3 q (.tup [.int 1]) = H4 at s4 t4 ⊢
    refine ⟨_, rfl, F, xs, rfl, .inl (SqL.of (s4 _ _ e3)), q, _, _, rfl, rfl, SqT.of t4, by simp, by omega, by omega, by simp, fun e => by omega, fun _ u hu => ?_⟩
    have ef : (List.replicate ((xs.length : Nat) : Int).toNat [V.int 1]).flatten = (List.replicate ps.length (1 : Int)).map V.int := by
      rw [show ((xs.length : Nat) : Int).toNat = ps.length by omega]
      generalize ps.length = m
      induction m with
      | zero => rfl
      | succ m ih => rw [List.replicate_succ, List.flatten_cons, ih, List.replicate_succ]; rfl
    rw [ef]
    have s5 : Same H4 (upd H4 u (.tup ((List.replicate ps.length (1 : Int)).map V.int))) := same_upd hu
    have t5 : (upd H4 u (.tup ((List.replicate ps.length (1 : Int)).map V.int))) u = some (.tup ((List.replicate ps.length (1 : Int)).map V.int)) := upd_same
    generalize upd H4 u (.tup ((List.replicate ps.length (1 : Int)).map V.int)) = H5 at s5 t5 ⊢
    have e5 := s5 _ _ (s4 _ _ e3)
    have ru : Rp H5 0 (.ref u) (.tup ((List.replicate ps.length (1 : Int)).map D.int)) := .tup t5 (by rw [List.length_map, List.length_replicate]; omega) (RpA.ints _)
    refine ⟨_, rfl, _, rfl, F, xs, rfl, .inl ⟨SqL.of e5, fun t ht => ?_⟩⟩
    have s10 : Same H5 (upd H5 t (.tup xs)) := same_upd ht
    have t10 : (upd H5 t (.tup xs)) t = some (.tup xs) := upd_same
    generalize upd H5 t (.tup xs) = H10 at s10 t10 ⊢
    refine ⟨_, rfl, _, rfl, by show 4 ≤ sizeLine; decide, fun z hz => ?_⟩
    have s11 : Same H10 (upd H10 z (.tup [.int (6 + x), .ref t, .ref u, .ref u])) := same_upd hz
    have t11 : (upd H10 z (.tup [.int (6 + x), .ref t, .ref u, .ref u])) z = some (.tup [.int (6 + x), .ref t, .ref u, .ref u]) := upd_same
    generalize upd H10 z (.tup [.int (6 + x), .ref t, .ref u, .ref u]) = H11 at s11 t11 ⊢
    have on : ∀ z ∈ List.replicate ps.length (1 : Int), (1 : Int) ≤ z ∧ z ≤ 3 := fun z hz => by rw [List.eq_of_mem_replicate hz]; omega
    refine k (.ref z) (6 + x) ps _ _ H11 ((((p3.same s4).same s5).same s10).same s11) ?_ ⟨?_, by omega, by omega, by omega, by omega, g3, btw_ints (by rw [List.length_replicate]) on, btw_ints (by rw [List.length_replicate]) on⟩
    · exact b1.trans (b2.trans (b3.trans (Bt.of (((s4.trans s5).trans s10).trans s11))))
    · refine .tup t11 (by simp) (.cons (.int _) (.cons (.tup (s11 _ _ t10) (by omega) ?_) (.cons ((ru.same s10).same s11) (.cons ((ru.same s10).same s11) .nil))))
      exact (r3.nl (NL.of (((s4.trans s5).trans s10).trans s11))).rp
end
end Hc

set_option Elab.async false
set_option linter.all false
set_option maxRecDepth 100000
set_option maxHeartbeats 1000000
set_option autoImplicit false
namespace Hc
open PySem L2
theorem PrA.of {H : Hp} {h : Addr} : ∀ {xs : List V} {ps : List (Int × Int)}, RpA H h xs (ps.map prD) → PrA H xs ps
  | _, [], .nil => .nil
  | _, p :: ps, .cons r q => by
    obtain ⟨a, ys, rfl, e, _, ra⟩ := tup_inv r
    cases ra with
    | cons r1 ra =>
      cases ra with
      | cons r2 ra =>
        cases ra
        cases r1
        cases r2
        exact .cons ⟨a, rfl, e⟩ (PrA.of q)
theorem WebP.inv {H : Hp} {v : V} {n : Int} {ps : List (Int × Int)} {rm tm : List Int} (x : WebP H v n ps rm tm) : ∃ p q x3 x4 xs, v = .ref p ∧ H p = some (.tup [.int n, .ref q, x3, x4]) ∧ H q = some (.tup xs) ∧ PrA H xs ps ∧ xs.length ≤ 100000 ∧
    Rp H 0 x3 (.tup (rm.map D.int)) ∧ Rp H 0 x4 (.tup (tm.map D.int)) := by
  obtain ⟨p, ys, rfl, e, _, ra⟩ := tup_inv x.r
  cases ra with
  | cons r1 ra =>
  cases ra with
  | cons r2 ra =>
  cases ra with
  | cons r3 ra =>
  cases ra with
  | cons r4 ra =>
  cases ra
  cases r1
  obtain ⟨q, xs, rfl, e2, z, r2'⟩ := tup_inv r2
  exact ⟨p, q, _, _, xs, rfl, e, e2, PrA.of r2', z, r3, r4⟩
/-- the roads as things -/
def rdsOf (ps : List (Int × Int)) : List D := ps.map prD
theorem rdsOf_len (ps : List (Int × Int)) : (rdsOf ps).length = ps.length := by unfold rdsOf; rw [List.length_map]
/-- [x for x in range(n) if p(x)] -/
theorem lc_fr {H0 : Hp} {D : Addr} {n : Nat} {j : Nat} {te : TE} {tt : TT} {σ : St} {vs : List Nat} {Qd : Hp → Prop} (p : Nat → Bool) (hz : n ≤ 1000) (hD : H0 D = none)
    (hw : ∀ x, wipe ((wipe σ vs).set j (some x)) vs = wipe σ vs)
    (ht : ∀ r, r < n → ∀ H' (Q : Bool → Hp → Prop), Same H0 H' → Q (p r) H' → tt ((wipe σ vs).set j (some (.int (0 + (r : Int))))) H' Q)
    (he : ∀ r, r < n → ∀ H' (Q : VK), Q (.int (0 + (r : Int))) H' → te ((wipe σ vs).set j (some (.int (0 + (r : Int))))) H' Q)
    (hd : ∀ H', Same H0 H' → H' D = some (.lst (((List.range n).filter p).map fun j => V.int (j : Nat))) → Qd H') :
    ∃ W : Nat → Nat → Hp → Prop, (∃ m, W 0 m (upd H0 D (.lst []))) ∧ ∀ i m H, W i m H →
      ((Itr 0 n).stop i H ∧ Qd H) ∨ ((Itr 0 n).go i H ∧ ∃ Nx : Hp → Prop, (∀ H', Nx H' → ∃ m', m' < m ∧ W (i + 1) m' H') ∧ ∀ x H', (Itr 0 n).yld i H x H' → (gName j) x (wipe σ vs) H' fun σ2 H2 => wipe σ2 vs = wipe σ vs ∧ tt σ2 H2 fun b H3 =>
        if b = true then te σ2 H3 fun y H4 => ∃ acc, H4 D = some (.lst acc) ∧ acc.length < sizeLine ∧ Nx (upd H4 D (.lst (acc ++ [y]))) else Nx H3) := by
  refine lc_range (lo := 0) (n := n) (fun i H' => Same H0 H' ∧ H' D = some (.lst (((List.range i).filter p).map fun j => V.int (j : Nat))))
    ⟨same_upd hD, upd_same⟩ ?_ ?_
  · intro i H' hi ⟨s, hH⟩
    have hl2 : ((List.range i).filter p).length ≤ 1000 := by
      refine Nat.le_trans (List.length_filter_le _ _) ?_
      rw [List.length_range]; omega
    refine ⟨hw _, ht _ hi H' _ s ?_⟩
    cases hp : p i with
    | true =>
      refine iteT (he _ hi H' _ ⟨_, hH, by rw [List.length_map]; exact line_lt (by omega), fun b o q => ?_, ?_⟩)
      · rw [upd_ne (ne_of_none q hD)]
        exact s _ _ q
      · have e1 : [i].filter p = [i] := by rw [List.filter_cons, if_pos hp]; rfl
        rw [upd_same, List.range_succ, List.filter_append, List.map_append, e1, List.map_cons, List.map_nil, Int.zero_add]
    | false =>
      have e1 : [i].filter p = [] := by rw [List.filter_cons, if_neg (by rw [hp]; decide)]; rfl
      refine iteF ⟨s, ?_⟩
      rw [List.range_succ, List.filter_append, e1, List.append_nil]
      exact hH
  · intro H' ⟨s, hH⟩
    exact hd H' s hH
section
variable {P : Program} {w : World} {K : PySem.W.Frag} {mg : Str → Option Value} {base : Heap}
def spMade (C : Addr) : Sp := fun vs H Q _ => ∃ (v : V) (n : Int) (ps : List (Int × Int)) (rm tm : List Int), vs = [v] ∧ WebP H v n ps rm tm ∧ ∀ p H', Same H H' → WebO C H' 0 p n (rdsOf ps) → Q (.ref p) H'
theorem ok__law_made (T : Tx K mg) : FnOk P w K mg base CX0 9 T._law_made.f T._law_made.fd ["_law_web_here"] (spMade T.Web.C) := by
  refine T._law_made.F.ok sc_law_made (fun vs H Q E h => ?_) (fun cdv A outer s H vs Q E hr h => ?_)
  · obtain ⟨_, _, _, _, _, rfl, _⟩ := h
    rfl
  · obtain ⟨v, n, ps, rm, tm, rfl, W, k⟩ := h
    obtain ⟨pw, q, x3, x4, xs, rfl, ew, eq, ra, hz, r3, r4⟩ := W.inv
    refine ⟨_, (pss_one (ps_ret (pe_make T.Web.mk1 (ok_Web___init T) (hr.mono (by decide)) rfl T.Web.g T.Web.b .nil passL (pa_cons (pe_ix ix_tup (pv 0) pe_int (fun _ _ => rfl)) (pa_cons (pe_ix ix_tup (pv 0) pe_int (fun _ _ => rfl)) (pa_cons (pe_ix ix_tup (pv 0) pe_int (fun _ _ => rfl)) (pa_cons (pe_ix ix_tup (pv 0) pe_int (fun _ _ => rfl)) pa_nil))))))), ?_⟩
    refine ⟨_, rfl, pw, _, 0, _, rfl, rfl, SqT.of ew, atI_nat (j := 0) rfl, _, rfl, pw, _, 1, _, rfl, rfl, SqT.of ew, atI_nat (j := 1) rfl, _, rfl, pw, _, 2, _, rfl, rfl, SqT.of ew, atI_nat (j := 2) rfl, _, rfl, pw, _, 3, _, rfl, rfl, SqT.of ew, atI_nat (j := 3) rfl, fun x dx hx hdx ne => ?_⟩
    have sx : Same H (upd (upd H dx (.own x)) x (.ins T.Web.C dx [])) := fun b o q => by
      rw [upd_ne (ne_of_none q hx), upd_ne (ne_of_none q hdx)]; exact q
    have r2 : Rp H 0 (.ref q) (.tup (ps.map prD)) := .tup eq hz ra.rp
    have hall := good_be W.g
    have l0 : 1 ≤ (ps.map prD).length := by rw [List.length_map]; exact W.l0
    have l1 : (ps.map prD).length ≤ 24 := by rw [List.length_map]; exact W.l1
    have hdue : due (.int n) (.tup (ps.map prD)) (.tup (rm.map Hc.D.int)) (.tup (tm.map Hc.D.int)) = none := by
      have q1 : ¬ isBtw 2 12 (.int n) = false := by rw [btw_of W.n0 W.n1]; decide
      have q2 : ¬ areRoads (num (.int n)) (.tup (ps.map prD)) = false := by
        show ¬ areRoads n (.tup (ps.map prD)) = false
        rw [areRoads_tup, decide_eq_true l0, decide_eq_true l1, hall]; decide
      have el : dlen (.tup (ps.map prD)) = ps.length := by show (ps.map prD).length = _; rw [List.length_map]
      have q3 : ¬ areBtw (dlen (.tup (ps.map prD))) 1 3 (.tup (rm.map Hc.D.int)) = false := by rw [el, W.a]; decide
      have q4 : ¬ areBtw (dlen (.tup (ps.map prD))) 1 3 (.tup (tm.map Hc.D.int)) = false := by rw [el, W.b]; decide
      exact (if_neg q1).trans ((if_neg q2).trans ((if_neg q3).trans (if_neg q4)))
    refine ⟨0, x, dx, .int n, .ref q, x3, x4, .int n, .tup (ps.map prD), _, _, rfl, upd_same, .int n, r2.same sx, r3.same sx, r4.same sx, fun _ H7 b7 e7 => ⟨rfl, ?_⟩, fun part hd => by rw [hdue] at hd; cases hd⟩
    have s7 : Same H H7 := fun b o q => b7 _ _ (sx _ _ q) (ne_of_none q hx)
    exact k x H7 s7 ⟨⟨dx, _, _, _, e7, r2.same s7⟩, hall, l0, l1⟩
end
end Hc

set_option Elab.async false
set_option linter.all false
set_option maxRecDepth 100000
set_option maxHeartbeats 1000000
set_option autoImplicit false
namespace Hc
open PySem L2
theorem units1 {k : Nat} {A : Around} (r : Room (k + 1) A) : A.units + 1 < cLine := by have := r.un; omega
theorem units65 {k : Nat} {A : Around} (r : Room (k + 1) A) : A.units + 65 < cLine := by have := r.un; omega
/-- the dict of the ends -/
def kdP (ps : List (Int × Int)) : List (Key × V) := ps.foldl (fun acc p => putK acc (Sum.inl p.1) (.int p.2)) []
theorem kdP_snoc (ps : List (Int × Int)) (p : Int × Int) : kdP (ps ++ [p]) = putK (kdP ps) (Sum.inl p.1) (.int p.2) := by
  unfold kdP
  rw [List.foldl_append]; rfl
theorem kdP_len : ∀ ps : List (Int × Int), (kdP ps.reverse).length ≤ ps.length
  | [] => Nat.le_refl _
  | p :: ps => by
    rw [List.reverse_cons, kdP_snoc]
    have h1 := length_putK (kdP ps.reverse) (Sum.inl p.1) (.int p.2)
    have h2 := kdP_len ps
    rw [List.length_cons]; omega
theorem kdP_len' (ps : List (Int × Int)) : (kdP ps).length ≤ ps.length := by
  have := kdP_len ps.reverse
  rw [List.reverse_reverse, List.length_reverse] at this
  exact this
theorem kdP_val : ∀ (ps : List (Int × Int)) (b : Int), valV (kdP ps.reverse) (Sum.inl b) = (getL ps.reverse b).map V.int
  | [], b => rfl
  | p :: ps, b => by
    rw [List.reverse_cons, kdP_snoc, getL_snoc, valV_put, kdP_val ps b]
    by_cases e : p.1 = b
    · rw [if_pos (by rw [e]), if_pos e]; rfl
    · rw [if_neg (fun z => e (Sum.inl.inj z).symm), if_neg e]
theorem kdP_val' (ps : List (Int × Int)) (b : Int) : valV (kdP ps) (Sum.inl b) = (getL ps b).map V.int := by
  have := kdP_val ps.reverse b
  rw [List.reverse_reverse] at this
  exact this
theorem take_snoc {α : Type} {l : List α} {i : Nat} {x : α} (h : l[i]? = some x) : l.take (i + 1) = l.take i ++ [x] := by
  rw [List.take_add_one, h]; rfl
def optV : Option Int → V
  | none => .non
  | some i => .int i
theorem natV (r : Nat) : optV (some (r : Int)) = .int (r : Nat) := rfl
theorem one_of {α : Type} {l : List α} (h : l.length = 1) : ∃ a, l = [a] := by
  match l, h with
  | [a], _ => exact ⟨a, rfl⟩
theorem rootP_len {n : Int} {ps : Prs} (h : ¬ (endsN n ps).length = 1) : rootP n ps = none := by
  unfold rootP
  match e : endsN n ps with
  | [] => rfl
  | [r] => exact absurd (by rw [e]; rfl) h
  | _ :: _ :: _ => rfl
theorem rootP_no {n : Int} {ps : Prs} {r : Nat} (e : endsN n ps = [r]) (h : ¬ ((ps.length : Int) = n - 1 ∧ (∀ j ∈ List.range n.toNat, itN (stP ps r) ps.length (j : Nat) = r))) : rootP n ps = none := by
  unfold rootP
  rw [e]
  exact if_neg h
theorem rootP_yes {n : Int} {ps : Prs} {r : Nat} (e : endsN n ps = [r]) (h : ((ps.length : Int) = n - 1 ∧ (∀ j ∈ List.range n.toNat, itN (stP ps r) ps.length (j : Nat) = r))) : rootP n ps = some (r : Nat) := by
  unfold rootP
  rw [e]
  exact if_pos h
theorem rootF_len {n : Int} {ps : Prs} (h : ¬ (endsN n ps).length = 1) : rootF n ps = none := by
  unfold rootF
  match e : endsN n ps with
  | [] => rfl
  | [r] => exact absurd (by rw [e]; rfl) h
  | _ :: _ :: _ => rfl
theorem rootF_no {n : Int} {ps : Prs} {r : Nat} (e : endsN n ps = [r]) (h : ¬ ((ps.length : Int) = n - 1 ∧ (∀ j ∈ List.range n.toNat, itN (stF ps) n.toNat (j : Nat) = r))) : rootF n ps = none := by
  unfold rootF
  rw [e]
  exact if_neg h
theorem rootF_yes {n : Int} {ps : Prs} {r : Nat} (e : endsN n ps = [r]) (h : ((ps.length : Int) = n - 1 ∧ (∀ j ∈ List.range n.toNat, itN (stF ps) n.toNat (j : Nat) = r))) : rootF n ps = some (r : Nat) := by
  unfold rootF
  rw [e]
  exact if_pos h
section
variable {P : Program} {w : World} {K : PySem.W.Frag} {mg : Str → Option Value} {base : Heap}
def spRoot (C : Addr) : Sp := fun vs H Q _ => ∃ (p : Addr) (n : Int) (ps : List (Int × Int)), vs = [.ref p] ∧ WebO C H 0 p n (rdsOf ps) ∧ 2 ≤ n ∧ n ≤ 12 ∧ ∀ H', Same H H' → Q (optV (rootP n ps)) H'
theorem ok_root (T : Tx K mg) : FnOk P w K mg base CX0 2 T.root.f T.root.fd ["web"] (spRoot T.Web.C) := by
  refine T.root.F.ok sc_root (fun vs H Q E h => ?_) (fun cdv A outer s H vs Q E hr h => ?_)
  · obtain ⟨p, n, ps, rfl, _⟩ := h
    rfl
  · obtain ⟨p, n, ps, rfl, W, n0, n1, k⟩ := h
    obtain ⟨dx, v2, v3, v4, hp, r2⟩ := W.ex
    obtain ⟨pa, xs, rfl, ea, za, ra⟩ := tup_inv r2
    have pr : PrA H xs ps := PrA.of (h := 0) ra
    have lx := pr.len
    have l24 : ps.length ≤ 24 := by have := W.l2; rw [rdsOf_len] at this; exact this
    refine ⟨_, (pss_cons (ps_set (i := 1) sc_root.nd rfl (Or.inr rfl) (pe_dc (own := [("begin", 7), ("end", 8)]) (g := (gTup K 2 (gCons (gName 7) (gCons (gName 8) gNil)))) (tt := tYes) rfl sc_root.nd (pi_tup (pe_fld (pv 0) rfl)) (blkOk_by (own := [("begin", 7), ("end", 8)]) (N := ["web", "ends", "last", "found", "house", "at", "_", "begin", "end"]) (sc := defScope s_root) (by decide +kernel)) (fun _ _ _ _ _ => (pg_tup (by rfl) (pgs_cons (pg_name (i := 7) sc_root.nd rfl (Or.inl rfl)) (pgs_cons (pg_name (i := 8) sc_root.nd rfl (Or.inl rfl)) pgs_nil)))) (fun _ _ _ _ _ => pts_nil) (fun _ _ _ _ _ => (by exact (pv 7))) (fun _ _ _ _ _ => (by exact (pv 8)))))
      (pss_cons (ps_setLc (i := 2) (own := [("house", 4)]) (g := (gName 4))  rfl sc_root.nd rfl rfl (sw_true rfl rfl rfl (by decide +kernel)) (pi_range1 (by rfl) T.n_range (pa_cons (pe_fld (pv 0) rfl) pa_nil)) (blkOk_by (own := [("house", 4)]) (N := ["web", "ends", "last", "found", "house", "at", "_", "begin", "end"]) (sc := defScope s_root) (by decide +kernel)) (fun _ _ _ _ _ => (pg_name (i := 4) sc_root.nd rfl (Or.inl rfl))) (fun _ _ _ _ _ => (pts_one (by exact (pt_cmp (pc_dnotin (units1 hr) (pv 4) (pv 1)))))) (fun _ _ _ _ _ => (by exact (pv 4))))
      (pss_cons (ps_if (PW.pt (pw_or (pt_cmpR op_ne (pe_callB call_len_seq (by rfl) T.n_len (by decide +kernel) (pa_cons (pv 2) pa_nil)) pe_int (nomark _)) (pw_or1 (pt_cmpR op_ne (pe_callB call_len_seq (by rfl) T.n_len (by decide +kernel) (pa_cons (pe_fld (pv 0) rfl) pa_nil)) (pe_op op_sub (pe_fld (pv 0) rfl) pe_int) (nomark _)))))
      (pss_one (ps_ret pe_non))
      pss_nil)
      (pss_cons (ps_set (i := 3) sc_root.nd rfl (Or.inl rfl) (pe_ix ix_list (pv 2) pe_int (fun _ _ => rfl)))
      (pss_cons (ps_for PassesOwn.never rfl (pi_range1 (by rfl) T.n_range (pa_cons (pe_fld (pv 0) rfl) pa_nil)) (pg_name (i := 4) sc_root.nd rfl (Or.inl rfl))
      (pss_cons (ps_set (i := 5) sc_root.nd rfl (Or.inl rfl) (pv 4))
      (pss_cons (ps_for PassesOwn.never rfl (pi_tup (pe_fld (pv 0) rfl)) (pg_name (i := 6) sc_root.nd rfl (Or.inl rfl))
      (pss_one (ps_set (i := 5) sc_root.nd rfl (Or.inl rfl) (pe_dget2 (units1 hr) (pv 1) (pv 5) (pv 3) ⟨rfl, rfl, rfl, rfl⟩))))
      (pss_one (ps_if (pt_cmpR op_ne (pv 5) (pv 3) (nomark _))
      (pss_one (ps_ret pe_non))
      pss_nil)))))
      (pss_one (ps_ret (pv 3)))))))), ?_⟩
    refine ⟨_, rfl, p, T.Web.C, dx, _, _, rfl, hp, T.Web.cl, T.Web.no _ (by simp), wF_r _ _ _ _, pa, rfl, ⟨_, SqT.of ea⟩, fun Z hZ => ?_⟩
    refine dc_tup (xs := xs) (fun i H' => Same H H' ∧ H' Z = some (.dK (kdP (ps.take i)))) ⟨same_upd hZ, upd_same⟩ (fun i H' _ ⟨s, _⟩ => SqT.of (s _ _ ea)) ?_ ?_
    · rintro i x H' hx ⟨s, hd⟩
      obtain ⟨pp, hp1, qq, rfl, eq⟩ := pr.get hx
      refine ⟨qq, _, rfl, SqT.of (s _ _ eq), rfl, _, _, rfl, _, _, rfl, rfl, rfl, tyes ⟨_, rfl, _, rfl, _, Sum.inl pp.1, rfl, hd, ?_, fun b o z => ?_, ?_⟩⟩
      · have := kdP_len' (ps.take i)
        have h2 : (ps.take i).length ≤ ps.length := by rw [List.length_take]; omega
        exact line_lt (by omega)
      · rw [upd_ne (ne_of_none z hZ)]
        exact s _ _ z
      · rw [upd_same, take_snoc hp1, kdP_snoc]
    rintro H1 ⟨s1, hd1⟩
    rw [lx, List.take_length] at hd1
    refine ⟨_, rfl, p, T.Web.C, dx, _, _, rfl, s1 _ _ hp, T.Web.cl, T.Web.no _ (by simp), wF_h _ _ _ _, n, rfl, by omega, by omega, fun S hS => ?_⟩
    refine lc_fr (j := 4) (n := n.toNat) (fun j => !decide ((j : Int) ∈ ps.map (·.1))) (by omega) hS ?_ ?_ ?_ ?_
    · exact fun x => rfl
    · intro r hr2 H2 Q' s2 kq
      refine ⟨_, rfl, _, rfl, Z, _, rfl, DGet.k (k := Sum.inl (0 + (r : Int))) (s2 _ _ hd1), _, rfl, ?_⟩
      rw [kdP_val', Option.isSome_map, getL_some, Int.zero_add]
      exact kq
    · exact fun r hr2 H2 Q' kq => ⟨_, rfl, kq⟩
    intro H2 s2 hL
    have hL : H2 S = some (.lst ((endsN n ps).map fun j => V.int (j : Nat))) := hL
    have sm := s1.trans s2
    refine ⟨_, rfl, S, _, rfl, .inl (SqL.of hL), rfl, _, rfl, ?_⟩
    rw [List.length_map]
    by_cases h1 : (endsN n ps).length = 1
    · rw [h1]
      refine iteF ?_
      refine ⟨_, rfl, p, T.Web.C, dx, _, _, rfl, sm _ _ hp, T.Web.cl, T.Web.no _ (by simp), wF_r _ _ _ _, pa, xs, rfl, .inr (SqT.of (sm _ _ ea)), _, rfl, p, T.Web.C, dx, _, _, rfl, sm _ _ hp, T.Web.cl, T.Web.no _ (by simp), wF_h _ _ _ _, _, _, rfl, rfl, rfl, _, rfl, ?_⟩
      rw [lx, int_eqd]
      by_cases h2 : (ps.length : Int) = n - 1
      · rw [decide_eq_true h2]
        refine iteF ?_
        obtain ⟨r, hr1⟩ := one_of h1
        rw [hr1] at hL
        have g2 : (endsN n ps).map (fun j => V.int (j : Nat)) = [.int (r : Nat)] := by rw [hr1]; rfl
        have hd2 := s2 _ _ hd1
        refine ⟨_, rfl, S, _, 0, _, rfl, rfl, SqL.of hL, atI_nat (j := 0) rfl, ?_⟩
        refine ⟨_, rfl, p, T.Web.C, dx, _, _, rfl, sm _ _ hp, T.Web.cl, T.Web.no _ (by simp), wF_h _ _ _ _, n, rfl, by omega, by omega, ?_⟩
        refine for_range (lo := 0) (n := n.toNat) (fun i σ' H' => ∃ hv av uv, σ' = [some (.ref p), some (.ref Z), some (.ref S), some (.int (r : Nat)), hv, av, uv, none, none] ∧ H' = H2 ∧ ∀ j, j < i → itN (stP ps r) ps.length (j : Nat) = r)
          ⟨none, none, none, rfl, rfl, fun _ z => by omega⟩ ?_ ?_
        · rintro i σ' H' hi ⟨hv, av, uv, rfl, rfl, hall⟩
          refine ⟨_, rfl, ?_⟩
          refine ⟨_, rfl, p, T.Web.C, dx, _, _, rfl, sm _ _ hp, T.Web.cl, T.Web.no _ (by simp), wF_r _ _ _ _, pa, rfl, ⟨_, SqT.of (sm _ _ ea)⟩, ?_⟩
          refine for_tup (xs := xs) (fun k σ' H3 => ∃ uv, σ' = [some (.ref p), some (.ref Z), some (.ref S), some (.int (r : Nat)), some (.int (0 + (i : Int))), some (.int (itN (stP ps r) k (0 + (i : Int)))), uv, none, none] ∧ H3 = H')
            ⟨uv, rfl, rfl⟩ (fun k σ' H3 _ ⟨_, _, e⟩ => by rw [e]; exact SqT.of (sm _ _ ea)) ?_ ?_
          · rintro k x σ' H3 hx ⟨uv, rfl, rfl⟩
            refine ⟨_, rfl, Z, rfl, .inl ⟨_, .inl hd2⟩, _, rfl, _, rfl, _, DGet.k (k := Sum.inl (itN (stP ps r) k (0 + (i : Int)))) hd2, some x, ?_, rfl⟩
            rw [kdP_val']
            have : ((getL ps (itN (stP ps r) k (0 + (i : Int)))).map V.int).getD (V.int (r : Nat)) = V.int (itN (stP ps r) (k + 1) (0 + (i : Int))) := by
              show _ = V.int ((getL ps (itN (stP ps r) k (0 + (i : Int)))).getD (r : Nat))
              cases getL ps (itN (stP ps r) k (0 + (i : Int))) <;> rfl
            rw [this]; rfl
          · rintro σ' H3 ⟨uv, rfl, rfl⟩
            rw [lx, Int.zero_add]
            refine ⟨_, rfl, _, rfl, rfl, _, rfl, ?_⟩
            rw [int_eqd]
            by_cases h3 : itN (stP ps r) ps.length (i : Nat) = r
            · rw [decide_eq_true h3]
              refine iteF ⟨_, _, _, rfl, rfl, fun j hj => ?_⟩
              by_cases e : j = i
              · subst e; exact h3
              · exact hall j (by omega)
            · rw [decide_eq_false h3]
              refine iteT ?_
              have := k H3 sm
              rw [rootP_no hr1 (fun z => h3 (z.2 i (List.mem_range.mpr hi)))] at this
              exact this
        · rintro σ' H' ⟨hv, av, uv, rfl, rfl, hall⟩
          have := k H' sm
          rw [rootP_yes hr1 ⟨h2, fun j hj => hall j (List.mem_range.mp hj)⟩] at this
          exact ⟨_, rfl, this⟩
      · rw [decide_eq_false h2]
        have := k H2 sm
        obtain ⟨r, hr1⟩ := one_of h1
        rw [rootP_no hr1 (fun z => h2 z.1)] at this
        exact iteT this
    · have : decide (V.int ((endsN n ps).length : Nat) = V.int 1) = false := by
        rw [int_eqd]
        exact decide_eq_false (by omega)
      rw [this]
      have := k H2 sm
      rw [rootP_len h1] at this
      exact iteT this
end
end Hc

set_option Elab.async false
set_option linter.all false
set_option maxRecDepth 100000
set_option maxHeartbeats 1000000
set_option autoImplicit false
namespace Hc
open PySem L2
theorem slA_gen {K : PySem.W.Frag} {H : Hp} {a : Addr} {xs : List V} {lo hi : Option Int} {Q : VK} (e : H a = some (.tup xs)) (k : ∀ b H', Same H H' → H' b = some (.tup (cutV xs lo hi)) → Q (.ref b) H') : rSlA K (.ref a) lo hi H Q := by
  refine ⟨a, xs, rfl, SqT.of e, fun hw => ?_, fun _ p hp => ?_⟩
  · have : cutV xs lo hi = xs := by
      unfold cutV
      rw [hw.1, hw.2, List.drop_zero, Nat.sub_zero, List.take_length]
    exact k a H (Same.refl H) (by rw [this]; exact e)
  · exact k p _ (same_upd hp) upd_same
theorem lay_int (l : List Int) : PyData.canLayAll0 (l.map .int) = true ∧ PyData.depthAll (l.map .int) = 0 := by
  induction l with
  | nil => exact ⟨rfl, rfl⟩
  | cons a l ih =>
    constructor
    · show (true && PyData.canLayAll0 (l.map .int)) = true
      rw [ih.1]; rfl
    · show max 0 (PyData.depthAll (l.map .int)) = 0
      rw [ih.2]; rfl
theorem shaped_ints (l : List Int) : SeqAt.shaped (.list (l.map .int)) = true := by
  have h := lay_int l
  show (PyData.canLayAll0 (l.map .int) && decide (PyData.depthAll (l.map .int) + 1 ≤ 64)) = true
  rw [h.1, h.2]; decide
theorem dpl_ints {K : PySem.W.Frag} {H : Hp} : ∀ l : List Int, DpAll K H (l.map V.int) (l.map .int)
  | [] => .nil
  | a :: l => .cons (.int a) (dpl_ints l)
theorem eqv_int (a b : Int) : PyData.eqv (.int a) (.int b) = (a == b) := rfl
/-- the first pair that begins there -/
theorem getF_at : ∀ (ps : Prs) (b : Int), b ∈ ps.map (·.1) → ∃ (j : Nat) (p : Int × Int), ps[j]? = some p ∧ p.1 = b ∧ getF ps b = some p.2 ∧ ∀ m, m < j → ∀ q, ps[m]? = some q → q.1 ≠ b
  | [], b, h => by cases h
  | p :: ps, b, h => by
    by_cases e : p.1 = b
    · refine ⟨0, p, rfl, e, ?_, fun m hm => by omega⟩
      unfold getF
      rw [List.find?_cons, decide_eq_true e]; rfl
    · have h2 : b ∈ ps.map (·.1) := by
        rcases List.mem_cons.mp h with z | z
        · exact absurd z.symm e
        · exact z
      obtain ⟨j, q, a1, a2, a3, a4⟩ := getF_at ps b h2
      refine ⟨j + 1, q, by simpa using a1, a2, ?_, fun m hm r hr => ?_⟩
      · unfold getF at a3 ⊢
        rw [List.find?_cons, decide_eq_false e]; exact a3
      · cases m with
        | zero => have hr : some p = some r := hr; rw [← Option.some.inj hr]; exact e
        | succ m => exact a4 m (by omega) r (by simpa using hr)
theorem index_int {K : PySem.W.Frag} {H : Hp} {a : Addr} {ps : Prs} {b : Int} {Q : VK} (e : H a = some (.lst ((ps.map (·.1)).map V.int))) (m : b ∈ ps.map (·.1)) (k : ∀ (j : Nat) (p : Int × Int), ps[j]? = some p → getF ps b = some p.2 → Q (.int (j : Nat)) H) : rIndexD K (.ref a) [.int b] H Q := by
  obtain ⟨j, p, a1, a2, a3, a4⟩ := getF_at ps b m
  refine ⟨a, _, .int b, (ps.map (·.1)).map .int, j, .int p.1, rfl, rfl, .lst (SqL.of e) (dpl_ints _), .int _, shaped_ints _, rfl, ?_, ?_, ?_, k j p a1 a3⟩
  · rw [List.getElem?_map, List.getElem?_map, a1]; rfl
  · rw [eqv_int, a2]; simp
  · intro i z hi hz
    rw [List.getElem?_map, List.getElem?_map] at hz
    cases q : ps[i]? with
    | none => rw [q] at hz; cases hz
    | some r =>
      rw [q] at hz
      obtain rfl := Option.some.inj hz
      have := a4 i hi r q
      rw [eqv_int]
      simpa using this
theorem perm_pop {α : Type} {ls fs xs : List α} {k : Nat} {y : α} (h : ls[k]? = some y) (p : (ls ++ fs).Perm xs) : (ls.eraseIdx k ++ (fs ++ [y])).Perm xs := by
  obtain ⟨hk, rfl⟩ := List.getElem?_eq_some_iff.mp h
  refine List.Perm.trans ?_ p
  have e : ls = ls.take k ++ (ls[k] :: ls.drop (k + 1)) := by rw [← List.drop_eq_getElem_cons hk, List.take_append_drop]
  rw [List.eraseIdx_eq_take_drop_succ]
  generalize ls[k] = y at e ⊢
  generalize ls.take k = A at e ⊢
  generalize ls.drop (k + 1) = B at e ⊢
  subst e
  have h1 : (A ++ B ++ (fs ++ [y])).Perm ([y] ++ (A ++ B ++ fs)) := by rw [← List.append_assoc]; exact List.perm_append_comm
  refine h1.trans ?_
  show (y :: (A ++ B ++ fs)).Perm _
  rw [List.append_assoc, List.append_assoc]
  exact List.perm_middle.symm
section
variable {P : Program} {w : World} {K : PySem.W.Frag} {mg : Str → Option Value} {base : Heap}
def spSome : Sp := fun vs H Q _ => ∃ (h c a : Addr) (xs : List V), vs = [.ref h, .ref a] ∧ PoolAt H h c ∧ H a = some (.lst xs) ∧ a ≠ h ∧ a ≠ c ∧ 0 < xs.length ∧ xs.length ≤ 1000 ∧ ∀ x ∈ xs, ∀ H', PoolAt H' h c → Bt h c H H' → Q x H'
theorem ok__law_some (T : Tx K mg) : FnOk P w K mg base CX0 2 T._law_some.f T._law_some.fd ["_law_pool_here", "_law_things"] spSome := by
  refine T._law_some.F.ok sc_law_some (fun vs H Q E h => ?_) (fun cdv A outer s H vs Q E hr h => ?_)
  · obtain ⟨h, c, a, xs, rfl, _⟩ := h
    rfl
  · obtain ⟨h, c, a, xs, rfl, hA, ea, n1, n2, l0, l1, k⟩ := h
    refine ⟨_, (pss_one (ps_ret (pe_ix ix_list (pv 1) (pe_call (ok__law_draw T) (hr.mono (by decide)) rfl T._law_draw.g T._law_draw.F.kp T._law_draw.b .nil pass0 (pa_cons (pv 0) (pa_cons (pe_callB call_len_seq (by rfl) T.n_len (by decide +kernel) (pa_cons (pv 1) pa_nil)) pa_nil))) (fun _ _ => rfl)))), ?_⟩
    refine ⟨_, rfl, _, rfl, _, rfl, a, _, rfl, .inl (SqL.of ea), h, c, (xs.length : Nat), rfl, hA, by omega, by omega, fun x H1 x0 x1 p1 b1 => ?_⟩
    obtain ⟨j, rfl⟩ : ∃ j : Nat, x = j := ⟨x.toNat, by omega⟩
    have hj : j < xs.length := by omega
    exact ⟨a, xs, _, _, rfl, rfl, SqL.of (b1 _ _ ea n1 n2), atI_nat (List.getElem?_eq_getElem hj), k _ (List.getElem_mem hj) _ p1 b1⟩
def spMixed (K : PySem.W.Frag) : Sp := fun vs H Q _ => ∃ (h c a : Addr) (xs : List V), vs = [.ref h, .ref a] ∧ PoolAt H h c ∧ SqL K H a xs ∧ xs.length ≤ 1000 ∧
  ∀ F ys H', PoolAt H' h c → Bt h c H H' → H F = none → F ≠ h → F ≠ c → H' F = some (.lst ys) → ys.Perm xs → Q (.ref F) H'
theorem ok__law_mixed (T : Tx K mg) : FnOk P w K mg base CX0 2 T._law_mixed.f T._law_mixed.fd ["_law_pool_here", "_law_things"] (spMixed K) := by
  refine T._law_mixed.F.ok sc_law_mixed (fun vs H Q E h => ?_) (fun cdv A outer s H vs Q E hr h => ?_)
  · obtain ⟨h, c, a, xs, rfl, _⟩ := h
    rfl
  · obtain ⟨h, c, a, xs, rfl, hA, ea, l1, k⟩ := h
    refine ⟨_, (pss_cons (ps_set (i := 2) sc_law_mixed.nd rfl (Or.inl rfl) (pe_callTy call_list_of (by rfl) T.n_list (by decide +kernel) (pa_cons (pv 1) pa_nil)))
      (pss_cons (ps_set (i := 3) sc_law_mixed.nd rfl (Or.inl rfl) (pe_lst pa_nil))
      (pss_cons (ps_for PassesOwn.never rfl (pi_range1 (by rfl) T.n_range (pa_cons (pe_callB call_len_seq (by rfl) T.n_len (by decide +kernel) (pa_cons (pv 2) pa_nil)) pa_nil)) (pg_name (i := 4) sc_law_mixed.nd rfl (Or.inl rfl))
      (pss_one (ps_expr (pe_bm PySem.F.plainAttrs_list PySem.F.slot_list_append PySem.F.type_list_append mt_append (pv 3) (pa_cons (pe_bm PySem.F.plainAttrs_list PySem.F.slot_list_pop PySem.F.type_list_pop mt_popAt (pv 2) (pa_cons (pe_call (ok__law_draw T) (hr.mono (by decide)) rfl T._law_draw.g T._law_draw.F.kp T._law_draw.b .nil pass0 (pa_cons (pv 0) (pa_cons (pe_callB call_len_seq (by rfl) T.n_len (by decide +kernel) (pa_cons (pv 2) pa_nil)) pa_nil))) pa_nil)) pa_nil)))))
      (pss_one (ps_ret (pv 3)))))), ?_⟩
    refine ⟨_, rfl, a, xs, rfl, .inl ea, fun L hL => ?_⟩
    obtain ⟨n1, n2⟩ := hA.ne hL
    refine ⟨by show 0 ≤ sizeLine; decide, fun F hF => ?_⟩
    have hLF : L ≠ F := fun z => by subst z; rw [upd_same] at hF; cases hF
    have hF0 : H F = none := by rw [upd_ne (Ne.symm hLF)] at hF; exact hF
    obtain ⟨m1, m2⟩ := hA.ne hF0
    have e1 : (upd (upd H L (.lst xs)) F (.lst [])) L = some (.lst xs) := by rw [upd_ne hLF, upd_same]
    refine ⟨_, rfl, L, _, rfl, .inl (SqL.of e1), (xs.length : Int), rfl, by omega, by omega, ?_⟩
    refine for_range (lo := 0) (n := (xs.length : Int).toNat) (fun i σ' H' => ∃ (kv : Option V) (ls fs : List V), σ' = [some (.ref h), some (.ref a), some (.ref L), some (.ref F), kv] ∧ PoolAt H' h c ∧ Bt h c H H' ∧ H' L = some (.lst ls) ∧ H' F = some (.lst fs) ∧
        ls.length + i = xs.length ∧ fs.length = i ∧ (ls ++ fs).Perm xs)
      ⟨none, xs, [], rfl, (hA.upd n1 n2).upd m1 m2, ((Bt.refl h c H).upd hL).upd hF0, e1, upd_same, rfl, rfl, by rw [List.append_nil]⟩ ?_ ?_
    · rintro i σ' H1 hi ⟨kv, ls, fs, rfl, p1, b1, eL, eF, q1, q2, pm⟩
      refine ⟨_, rfl, .inl ⟨rfl, _, SqL.of eF⟩, _, rfl, .inl ⟨rfl, _, SqL.of eL⟩, _, rfl, _, rfl, L, _, rfl, .inl (SqL.of eL), h, c, (ls.length : Nat), rfl, p1, by omega, by omega, fun x H2 x0 x1 p2 b2 => ?_⟩
      obtain ⟨j, rfl⟩ : ∃ j : Nat, x = j := ⟨x.toNat, by omega⟩
      have hj : j < ls.length := by omega
      have eL2 := b2 _ _ eL n1 n2
      have eF2 := b2 _ _ eF m1 m2
      have sx : seqIndex? (j : Int) ls.length = some j := (ixN_seq (by unfold ixN; rw [if_pos (by omega), if_pos (by omega)]; rfl)).1
      refine ⟨L, ls, _, j, _, rfl, rfl, eL2, by omega, by omega, sx, List.getElem?_eq_getElem hj, ?_⟩
      refine ⟨F, fs, _, rfl, rfl, by rw [upd_ne (Ne.symm hLF)]; exact eF2, line_lt (by omega), ?_⟩
      refine ⟨_, ls.eraseIdx j, fs ++ [ls[j]], rfl, (p2.upd n1 n2).upd m1 m2, ((b1.trans b2).upd hL).upd hF0, by rw [upd_ne hLF, upd_same], upd_same, ?_, ?_, perm_pop (List.getElem?_eq_getElem hj) pm⟩
      · rw [List.length_eraseIdx, if_pos hj]; omega
      · rw [List.length_append, q2]; rfl
    · rintro σ' H1 ⟨kv, ls, fs, rfl, p1, b1, eL, eF, q1, q2, pm⟩
      have : ls = [] := List.eq_nil_of_length_eq_zero (by omega)
      subst this
      exact ⟨_, rfl, k F fs H1 p1 b1 hF0 m1 m2 eF pm⟩
def spLawRoot : Sp := fun vs H Q _ => ∃ (v : V) (n : Int) (ps : List (Int × Int)) (rm tm : List Int), vs = [v] ∧ WebP H v n ps rm tm ∧ ∀ H', Same H H' → Q (optV (rootF n ps)) H'
theorem ok__law_root (T : Tx K mg) : FnOk P w K mg base CX0 2 T._law_root.f T._law_root.fd ["_law_web_here"] spLawRoot := by
  refine T._law_root.F.ok sc_law_root (fun vs H Q E h => ?_) (fun cdv A outer s H vs Q E hr h => ?_)
  · obtain ⟨v, n, ps, rm, tm, rfl, _⟩ := h
    rfl
  · obtain ⟨v, n, ps, rm, tm, rfl, W, k⟩ := h
    obtain ⟨pw, q, x3, x4, xs, rfl, ew, eq, pr, hz, _, _⟩ := W.inv
    have n0 := W.n0
    have n1 := W.n1
    have l24 := W.l1
    have lx := pr.len
    refine ⟨_, (pss_cons (ps_asg (pe_slice sl_tupA (pv 0) po_none (po_some pe_int)) (pg_tup (by rfl) (pgs_cons (pg_name (i := 1) sc_law_root.nd rfl (Or.inl rfl)) (pgs_cons (pg_name (i := 2) sc_law_root.nd rfl (Or.inl rfl)) pgs_nil))))
      (pss_cons (ps_set (i := 3) sc_law_root.nd rfl (Or.inr rfl) (by exact (pe_lc (own := [("_law_pair", 8)]) (g := (gName 8)) (tt := tYes) (te := (tOp (rIxT K) (tVar 8) (tC (.int 0)))) rfl sc_law_root.nd (pi_tup (pv 2)) (blkOk_by (own := [("_law_pair", 8)]) (N := ["_law_web_here", "_law_houses", "_law_roads", "_law_begins", "_law_ends", "_law_house", "_law_here", "_law_step", "_law_pair"]) (sc := defScope s_law_root) (by decide +kernel)) (fun _ _ _ _ _ => (pg_name (i := 8) sc_law_root.nd rfl (Or.inl rfl))) (fun _ _ _ _ _ => pts_nil) (fun _ _ _ _ _ => (by exact (pe_ix ix_tup (pv 8) pe_int (fun _ _ => rfl)))))))
      (pss_cons (ps_setLc (i := 4) (own := [("_law_house", 5)]) (g := (gName 5))  (tt := (tTest (tOp (rIn K true) (tVar 5) (tVar 3)))) rfl sc_law_root.nd rfl rfl (sw_true rfl rfl rfl (by decide +kernel)) (pi_range1 (by rfl) T.n_range (pa_cons (pv 1) pa_nil)) (blkOk_by (own := [("_law_house", 5)]) (N := ["_law_web_here", "_law_houses", "_law_roads", "_law_begins", "_law_ends", "_law_house", "_law_here", "_law_step", "_law_pair"]) (sc := defScope s_law_root) (by decide +kernel)) (fun _ _ _ _ _ => (pg_name (i := 5) sc_law_root.nd rfl (Or.inl rfl))) (fun _ _ _ _ _ => (pts_one (by exact (pt_cmpR op_notIn_seq (pv 5) (pv 3) (by rfl))))) (fun _ _ _ _ _ => (by exact (pv 5))))
      (pss_cons (ps_if (PW.pt (pw_or (pt_cmpR op_ne (pe_callB call_len_seq (by rfl) T.n_len (by decide +kernel) (pa_cons (pv 4) pa_nil)) pe_int (nomark _)) (pw_or1 (pt_cmpR op_ne (pe_callB call_len_seq (by rfl) T.n_len (by decide +kernel) (pa_cons (pv 3) pa_nil)) (pe_op op_sub (pv 1) pe_int) (nomark _)))))
      (pss_one (ps_ret pe_non))
      pss_nil)
      (pss_cons (ps_for PassesOwn.never rfl (pi_range1 (by rfl) T.n_range (pa_cons (pv 1) pa_nil)) (pg_name (i := 5) sc_law_root.nd rfl (Or.inl rfl))
      (pss_cons (ps_set (i := 6) sc_law_root.nd rfl (Or.inl rfl) (pv 5))
      (pss_cons (ps_for PassesOwn.never rfl (pi_range1 (by rfl) T.n_range (pa_cons (pv 1) pa_nil)) (pg_name (i := 7) sc_law_root.nd rfl (Or.inl rfl))
      (pss_one (ps_if (pt_cmpR op_in_seq (pv 6) (pv 3) (by rfl))
      (pss_one (ps_set (i := 6) sc_law_root.nd rfl (Or.inl rfl) (pe_ix ix_tup (pe_ix ix_tup (pv 2) (pe_bm PySem.F.plainAttrs_list PySem.F.slot_list_index PySem.F.type_list_index (mt_indexD (units65 hr)) (pv 3) (pa_cons (pv 6) pa_nil)) (fun _ _ => rfl)) pe_int (fun _ _ => rfl))))
      pss_nil)))
      (pss_one (ps_if (pt_cmpR op_ne (pv 6) (pe_ix ix_list (pv 4) pe_int (fun _ _ => rfl)) (nomark _))
      (pss_one (ps_ret pe_non))
      pss_nil)))))
      (pss_one (ps_ret (pe_ix ix_list (pv 4) pe_int (fun _ _ => rfl))))))))), ?_⟩
    refine ⟨_, rfl, ?_⟩
    delta tNoPart
    refine ⟨_, rfl, ?_⟩
    refine slA_gen ew fun b H1 s1 eb => ?_
    have eb : H1 b = some (.tup [.int n, .ref q]) := eb
    have eq1 := s1 _ _ eq
    refine ⟨b, _, rfl, SqT.of eb, rfl, _, _, rfl, _, _, rfl, rfl, ?_⟩
    have pr1 := pr.nl (NL.of s1)
    refine ⟨_, rfl, q, rfl, ⟨_, SqT.of eq1⟩, fun B hB => ?_⟩
    refine lc_tup (xs := xs) (fun i H' => Same H1 H' ∧ H' B = some (.lst (((ps.take i).map (·.1)).map V.int))) ⟨same_upd hB, upd_same⟩ (fun i H' _ ⟨s, _⟩ => SqT.of (s _ _ eq1)) ?_ ?_
    · rintro i x H' hx ⟨s, hd⟩
      obtain ⟨pp, hp1, qq, rfl, eqq⟩ := pr1.get hx
      refine ⟨rfl, tyes ⟨_, rfl, qq, _, 0, _, rfl, rfl, SqT.of (s _ _ eqq), atI_nat (j := 0) rfl, _, hd, ?_, fun b o z => ?_, ?_⟩⟩
      · rw [List.length_map, List.length_map, List.length_take]; exact line_lt (by omega)
      · rw [upd_ne (ne_of_none z hB)]
        exact s _ _ z
      · rw [upd_same, take_snoc hp1, List.map_append, List.map_append]; rfl
    rintro H2 ⟨s2, hB2⟩
    rw [lx, List.take_length] at hB2
    refine ⟨_, rfl, n, rfl, by omega, by omega, fun S hS => ?_⟩
    refine lc_fr (j := 5) (n := n.toNat) (fun j => !decide ((j : Int) ∈ ps.map (·.1))) (by omega) hS ?_ ?_ ?_ ?_
    · exact fun x => rfl
    · intro r hr2 H3 Q' s3 kq
      refine ⟨_, rfl, _, rfl, B, _, rfl, .inl (SqL.of (s3 _ _ hB2)), rfl, flat_int _, _, rfl, ?_⟩
      rw [if_pos rfl, in_int, Int.zero_add]
      exact kq
    · exact fun r hr2 H3 Q' kq => ⟨_, rfl, kq⟩
    intro H3 s3 hL
    have hL : H3 S = some (.lst ((endsN n ps).map fun j => V.int (j : Nat))) := hL
    have sm := (s1.trans s2).trans s3
    have hB3 := s3 _ _ hB2
    have eq3 := sm _ _ eq
    have pr3 := pr.nl (NL.of sm)
    refine ⟨_, rfl, S, _, rfl, .inl (SqL.of hL), rfl, _, rfl, ?_⟩
    rw [List.length_map]
    by_cases h1 : (endsN n ps).length = 1
    · rw [h1]
      refine iteF ?_
      refine ⟨_, rfl, B, _, rfl, .inl (SqL.of hB3), _, rfl, _, _, rfl, rfl, rfl, _, rfl, ?_⟩
      rw [List.length_map, List.length_map, int_eqd]
      obtain ⟨r, hr1⟩ := one_of h1
      rw [hr1] at hL
      by_cases h2 : (ps.length : Int) = n - 1
      · rw [decide_eq_true h2]
        refine iteF ?_
        refine ⟨_, rfl, n, rfl, by omega, by omega, ?_⟩
        refine for_range (lo := 0) (n := n.toNat) (fun i σ' H' => ∃ hv av uv, σ' = [some (.ref pw), some (.int n), some (.ref q), some (.ref B), some (.ref S), hv, av, uv, none] ∧ H' = H3 ∧ ∀ j, j < i → itN (stF ps) n.toNat (j : Nat) = r)
          ⟨none, none, none, rfl, rfl, fun _ z => by omega⟩ ?_ ?_
        · rintro i σ' H' hi ⟨hv, av, uv, rfl, rfl, hall⟩
          refine ⟨_, rfl, ?_⟩
          refine ⟨_, rfl, n, rfl, by omega, by omega, ?_⟩
          refine for_range (lo := 0) (n := n.toNat) (fun k σ' H4 => ∃ uv, σ' = [some (.ref pw), some (.int n), some (.ref q), some (.ref B), some (.ref S), some (.int (0 + (i : Int))), some (.int (itN (stF ps) k (0 + (i : Int)))), uv, none] ∧ H4 = H')
            ⟨uv, rfl, rfl⟩ ?_ ?_
          · rintro k σ' H4 hk ⟨uv, rfl, rfl⟩
            refine ⟨_, rfl, _, rfl, B, _, rfl, .inl (SqL.of hB3), rfl, flat_int _, _, rfl, ?_⟩
            rw [if_neg (by decide), in_int]
            by_cases m : itN (stF ps) k (0 + (i : Int)) ∈ ps.map (·.1)
            · rw [decide_eq_true m]
              refine iteT ⟨_, rfl, _, rfl, .inl ⟨rfl, _, SqL.of hB3⟩, _, rfl, ?_⟩
              delta tNil
              dsimp only
              refine index_int hB3 m fun j p hp hf => ?_
              have hj : j < xs.length := by rw [lx]; exact (List.getElem?_eq_some_iff.mp hp).1
              obtain ⟨pp, hp1, qq, eqx, eqq⟩ := pr3.get (List.getElem?_eq_getElem hj)
              rw [hp] at hp1
              obtain rfl := Option.some.inj hp1
              refine ⟨q, xs, (j : Nat), _, rfl, rfl, SqT.of eq3, atI_nat (List.getElem?_eq_getElem hj), qq, _, 1, _, eqx, rfl, SqT.of eqq, atI_nat (j := 1) rfl, some (.int (0 + (k : Int))), ?_, rfl⟩
              have : p.2 = itN (stF ps) (k + 1) (0 + (i : Int)) := by
                show _ = (getF ps (itN (stF ps) k (0 + (i : Int)))).getD _
                rw [hf]; rfl
              rw [← this]; rfl
            · rw [decide_eq_false m]
              refine iteF ⟨some (.int (0 + (k : Int))), ?_, rfl⟩
              have : itN (stF ps) (k + 1) (0 + (i : Int)) = itN (stF ps) k (0 + (i : Int)) := by
                show (getF ps (itN (stF ps) k (0 + (i : Int)))).getD _ = _
                rw [getF_none m]; rfl
              rw [this]; rfl
          · rintro σ' H4 ⟨uv, rfl, rfl⟩
            rw [Int.zero_add]
            refine ⟨_, rfl, _, rfl, S, _, 0, _, rfl, rfl, SqL.of hL, atI_nat (j := 0) rfl, rfl, _, rfl, ?_⟩
            rw [int_eqd]
            by_cases h3 : itN (stF ps) n.toNat (i : Nat) = r
            · rw [decide_eq_true h3]
              refine iteF ⟨_, _, _, rfl, rfl, fun j hj => ?_⟩
              by_cases e : j = i
              · subst e; exact h3
              · exact hall j (by omega)
            · rw [decide_eq_false h3]
              refine iteT ?_
              have := k H4 sm
              rw [rootF_no hr1 (fun z => h3 (z.2 i (List.mem_range.mpr hi)))] at this
              exact this
        · rintro σ' H' ⟨hv, av, uv, rfl, rfl, hall⟩
          have := k H' sm
          rw [rootF_yes hr1 ⟨h2, fun j hj => hall j (List.mem_range.mp hj)⟩] at this
          exact ⟨_, rfl, S, _, 0, _, rfl, rfl, SqL.of hL, atI_nat (j := 0) rfl, this⟩
      · rw [decide_eq_false h2]
        have := k H3 sm
        rw [rootF_no hr1 (fun z => h2 z.1)] at this
        exact iteT this
    · have : decide (V.int ((endsN n ps).length : Nat) = V.int 1) = false := by
        rw [int_eqd]
        exact decide_eq_false (by omega)
      rw [this]
      have := k H3 sm
      rw [rootF_len h1] at this
      exact iteT this
end
end Hc

set_option Elab.async false
set_option linter.all false
set_option maxRecDepth 100000
set_option maxHeartbeats 1000000
set_option autoImplicit false
namespace Hc
open PySem L2
theorem PrA.setAt {H : Hp} : ∀ {xs : List V} {ps : List (Int × Int)} (j : Nat) {v : V} {p : Int × Int}, PrA H xs ps → PrV H v p → PrA H (xs.set j v) (ps.set j p)
  | _, _, _, _, _, .nil, _ => .nil
  | _, _, 0, _, _, .cons a r, b => .cons b r
  | _, _, j + 1, _, _, .cons a r, b => .cons a (PrA.setAt j r b)
theorem PrA.era {H : Hp} : ∀ {xs : List V} {ps : List (Int × Int)} (j : Nat), PrA H xs ps → PrA H (xs.eraseIdx j) (ps.eraseIdx j)
  | _, _, _, .nil => .nil
  | _, _, 0, .cons a r => r
  | _, _, j + 1, .cons a r => .cons a (PrA.era j r)
theorem good_set {n : Int} {ps : List (Int × Int)} {j : Nat} {q : Int × Int} (g : ∀ p ∈ ps, Good n p) (a : Good n q) : ∀ p ∈ ps.set j q, Good n p := fun p hp => by
  rcases List.mem_or_eq_of_mem_set hp with h | rfl
  · exact g p h
  · exact a
theorem good_era {n : Int} {ps : List (Int × Int)} {j : Nat} (g : ∀ p ∈ ps, Good n p) : ∀ p ∈ ps.eraseIdx j, Good n p := fun p hp => g p (List.mem_of_mem_eraseIdx hp)
theorem good_flip {n : Int} {p : Int × Int} (g : Good n p) : Good n (p.2, p.1) := ⟨g.2.2.1, g.2.2.2.1, g.1, g.2.1, fun z => g.2.2.2.2 z.symm⟩
theorem rep_ones {K : PySem.W.Frag} {H : Hp} {q : Addr} {m : Nat} {Q : VK} (e : H q = some (.tup [.int 1])) (h1 : 1 ≤ m) (h2 : m ≤ 1000) (k : ∀ u H', Same H H' → H' u = some (.tup ((List.replicate m (1 : Int)).map V.int)) → Q (.ref u) H') :
    rRepA K (.ref q) (.int (m : Nat)) H Q := by
  have ef : (List.replicate ((m : Nat) : Int).toNat [V.int 1]).flatten = (List.replicate m (1 : Int)).map V.int := by
    rw [show ((m : Nat) : Int).toNat = m by omega]
    clear k h1 h2
    induction m with
    | zero => rfl
    | succ m ih => rw [List.replicate_succ, List.flatten_cons, ih, List.replicate_succ]; rfl
  refine ⟨q, _, _, rfl, rfl, SqT.of e, by simp, by omega, by omega, by simp, fun e1 => ?_, fun _ u hu => ?_⟩
  · have : m = 1 := by omega
    subst this
    exact k q H (Same.refl _) e
  · exact k u _ (same_upd hu) (by rw [upd_same, ef])
theorem ones_ok (m : Nat) : ∀ z ∈ List.replicate m (1 : Int), (1 : Int) ≤ z ∧ z ≤ 3 := fun z hz => by rw [List.eq_of_mem_replicate hz]; omega
/-- a web's tuple of a list of roads and ones -/
theorem webP_mk {H : Hp} {z t u v : Addr} {n : Int} {xs : List V} {ps : List (Int × Int)} {rm tm : List Int} (ez : H z = some (.tup [.int n, .ref t, .ref u, .ref v])) (et : H t = some (.tup xs)) (pr : PrA H xs ps)
    (eu : H u = some (.tup (rm.map V.int))) (ev : H v = some (.tup (tm.map V.int))) (n0 : 2 ≤ n) (n1 : n ≤ 12) (l0 : 1 ≤ ps.length) (l1 : ps.length ≤ 24) (g : ∀ p ∈ ps, Good n p)
    (lr : rm.length = ps.length) (lt : tm.length = ps.length) (hr : ∀ z ∈ rm, (1 : Int) ≤ z ∧ z ≤ 3) (ht : ∀ z ∈ tm, (1 : Int) ≤ z ∧ z ≤ 3) : WebP H (.ref z) n ps rm tm := by
  have lx := pr.len
  refine ⟨?_, n0, n1, l0, l1, g, btw_ints (by omega) hr, btw_ints (by omega) ht⟩
  exact .tup ez (by simp) (.cons (.int _) (.cons (.tup et (by omega) pr.rp) (.cons (.tup eu (by rw [List.length_map]; omega) (RpA.ints rm)) (.cons (.tup ev (by rw [List.length_map]; omega) (RpA.ints tm)) .nil))))
def unV : V → Int
  | .int i => i
  | _ => 0
theorem perm_ints {ys : List V} {n : Nat} (p : ys.Perm ((List.range n).map fun j => V.int (j : Nat))) : ∃ zs : List Int, ys = zs.map V.int ∧ zs.Perm ((List.range n).map fun j => ((j : Nat) : Int)) := by
  refine ⟨ys.map unV, ?_, ?_⟩
  · rw [List.map_map]
    have : ∀ y ∈ ys, (V.int ∘ unV) y = y := fun y hy => by
      obtain ⟨j, _, rfl⟩ := List.mem_map.mp (p.mem_iff.mp hy)
      rfl
    rw [List.map_congr_left this, List.map_id']
  · have := p.map unV
    rw [List.map_map] at this
    exact this
theorem perm_names {n : Nat} {zs : List Int} (p : zs.Perm ((List.range n).map fun j => ((j : Nat) : Int))) : zs.length = n ∧ zs.Nodup ∧ ∀ z ∈ zs, 0 ≤ z ∧ z < (n : Int) := by
  refine ⟨?_, ?_, fun z hz => ?_⟩
  · have := p.length_eq
    rw [List.length_map, List.length_range] at this
    exact this
  · rw [p.nodup_iff, List.nodup_iff_pairwise_ne, List.pairwise_map]
    refine List.Pairwise.imp ?_ List.pairwise_lt_range
    intro a b hab z
    omega
  · obtain ⟨j, hj, rfl⟩ := List.mem_map.mp (p.mem_iff.mp hz)
    have := List.mem_range.mp hj
    omega
theorem rgV_nat (n : Int) (h : 0 ≤ n) : rgV 0 n = (List.range n.toNat).map fun j => V.int (j : Nat) := by
  unfold rgV
  rw [show (n - 0).toNat = n.toNat by omega]
  congr 1
  funext i
  rw [Int.zero_add]
theorem PrA.mem {H : Hp} : ∀ {xs : List V} {ps : List (Int × Int)} {x : V}, PrA H xs ps → x ∈ xs → ∃ p ∈ ps, PrV H x p
  | _, _, _, .cons a r, h => by
    rcases List.mem_cons.mp h with rfl | h
    · exact ⟨_, List.mem_cons_self, a⟩
    · obtain ⟨p, h1, h2⟩ := PrA.mem r h
      exact ⟨p, List.mem_cons_of_mem _ h1, h2⟩
section
variable {P : Program} {w : World} {K : PySem.W.Frag} {mg : Str → Option Value} {base : Heap}
def spRooted : Sp := fun vs H Q _ => ∃ (h c : Addr), vs = [.ref h] ∧ PoolAt H h c ∧ ∀ v n ps rm tm H', PoolAt H' h c → Bt h c H H' → WebP H' v n ps rm tm → ps.length ≤ 8 → Q v H'
theorem ok__law_rooted (T : Tx K mg) : FnOk P w K mg base CX0 3 T._law_rooted.f T._law_rooted.fd ["_law_pool_here"] spRooted := by
  refine T._law_rooted.F.ok sc_law_rooted (fun vs H Q E h => ?_) (fun cdv A outer s H vs Q E hr h => ?_)
  · obtain ⟨h, c, rfl, _⟩ := h
    rfl
  · obtain ⟨h, c, rfl, hA, k⟩ := h
    refine ⟨_, (pss_cons (ps_set (i := 1) sc_law_rooted.nd rfl (Or.inl rfl) (pe_op op_add pe_int (pe_call (ok__law_draw T) (hr.mono (by decide)) rfl T._law_draw.g T._law_draw.F.kp T._law_draw.b .nil pass0 (pa_cons (pv 0) (pa_cons pe_int pa_nil)))))
      (pss_cons (ps_set (i := 2) sc_law_rooted.nd rfl (Or.inl rfl) (pe_call (ok__law_mixed T) (hr.mono (by decide)) rfl T._law_mixed.g T._law_mixed.F.kp T._law_mixed.b .nil pass0 (pa_cons (pv 0) (pa_cons (pe_listRg rfl (by rfl) T.n_list (prg_1 (by rfl) T.n_range (pv 1))) pa_nil))))
      (pss_cons (ps_set (i := 3) sc_law_rooted.nd rfl (Or.inl rfl) (pe_lst pa_nil))
      (pss_cons (ps_for PassesOwn.never rfl (pi_list (pe_call (ok__law_mixed T) (hr.mono (by decide)) rfl T._law_mixed.g T._law_mixed.F.kp T._law_mixed.b .nil pass0 (pa_cons (pv 0) (pa_cons (pe_call (ok__law_tree_roads T) (hr.mono (by decide)) rfl T._law_tree_roads.g T._law_tree_roads.F.kp T._law_tree_roads.b .nil pass0 (pa_cons (pv 1) (pa_cons (pv 0) pa_nil))) pa_nil)))) (pg_tup (by rfl) (pgs_cons (pg_name (i := 4) sc_law_rooted.nd rfl (Or.inl rfl)) (pgs_cons (pg_name (i := 5) sc_law_rooted.nd rfl (Or.inl rfl)) pgs_nil)))
      (pss_one (ps_expr (pe_bm PySem.F.plainAttrs_list PySem.F.slot_list_append PySem.F.type_list_append mt_append (pv 3) (pa_cons (pe_tup (pa_cons (pe_ix ix_list (pv 2) (pv 4) (fun _ _ => rfl)) (pa_cons (pe_ix ix_list (pv 2) (pv 5) (fun _ _ => rfl)) pa_nil))) pa_nil)))))
      (pss_cons (ps_set (i := 6) sc_law_rooted.nd rfl (Or.inl rfl) (pe_callTy call_tuple_of (by rfl) T.n_tuple (by decide +kernel) (pa_cons (pe_lc (own := [("_law_road", 8)]) (g := (gName 8)) (tt := tYes) rfl sc_law_rooted.nd (pi_list (pv 3)) (blkOk_by (own := [("_law_road", 8)]) (N := ["_law_pool_here", "_law_houses", "_law_names", "_law_roads", "_law_begin", "_law_end", "_law_rooms", "_law_times", "_law_road"]) (sc := defScope s_law_rooted) (by decide +kernel)) (fun _ _ _ _ _ => (pg_name (i := 8) sc_law_rooted.nd rfl (Or.inl rfl))) (fun _ _ _ _ _ => pts_nil) (fun _ _ _ _ _ => (by exact (pe_op op_add pe_int (pe_call (ok__law_draw T) (hr.mono (by decide)) rfl T._law_draw.g T._law_draw.F.kp T._law_draw.b .nil pass0 (pa_cons (pv 0) (pa_cons pe_int pa_nil))))))) pa_nil)))
      (pss_cons (ps_set (i := 7) sc_law_rooted.nd rfl (Or.inl rfl) (pe_callTy call_tuple_of (by rfl) T.n_tuple (by decide +kernel) (pa_cons (pe_lc (own := [("_law_road", 8)]) (g := (gName 8)) (tt := tYes) rfl sc_law_rooted.nd (pi_list (pv 3)) (blkOk_by (own := [("_law_road", 8)]) (N := ["_law_pool_here", "_law_houses", "_law_names", "_law_roads", "_law_begin", "_law_end", "_law_rooms", "_law_times", "_law_road"]) (sc := defScope s_law_rooted) (by decide +kernel)) (fun _ _ _ _ _ => (pg_name (i := 8) sc_law_rooted.nd rfl (Or.inl rfl))) (fun _ _ _ _ _ => pts_nil) (fun _ _ _ _ _ => (by exact (pe_op op_add pe_int (pe_call (ok__law_draw T) (hr.mono (by decide)) rfl T._law_draw.g T._law_draw.F.kp T._law_draw.b .nil pass0 (pa_cons (pv 0) (pa_cons pe_int pa_nil))))))) pa_nil)))
      (pss_one (ps_ret (pe_tup (pa_cons (pv 1) (pa_cons (pe_callTy call_tuple_of (by rfl) T.n_tuple (by decide +kernel) (pa_cons (pv 3) pa_nil)) (pa_cons (pv 6) (pa_cons (pv 7) pa_nil))))))))))))), ?_⟩
    refine ⟨_, rfl, h, c, 8, rfl, hA, by decide, by decide, fun x H1 x0 x1 p1 b1 => ⟨_, _, rfl, rfl, ?_⟩⟩
    obtain ⟨n, hn⟩ : ∃ n : Int, n = 2 + x := ⟨_, rfl⟩
    have hv : (fun i j => V.int (i + j)) 2 x = V.int n := by rw [hn]
    rw [hv]
    have n0 : 2 ≤ n := by omega
    have n1 : n ≤ 9 := by omega
    refine ⟨_, rfl, _, rfl, _, rfl, RgOk.of_le (by decide) (by omega) (by decide) (by omega), fun A0 hA0 => ?_⟩
    rw [rgV_nat n (by omega)]
    have s2 : Same H1 (upd H1 A0 (.lst ((List.range n.toNat).map fun j => V.int (j : Nat)))) := same_upd hA0
    have e2 : (upd H1 A0 (.lst ((List.range n.toNat).map fun j => V.int (j : Nat)))) A0 = some (.lst ((List.range n.toNat).map fun j => V.int (j : Nat))) := upd_same
    generalize upd H1 A0 (.lst ((List.range n.toNat).map fun j => V.int (j : Nat))) = H2 at s2 e2 ⊢
    have p2 := p1.same s2
    refine ⟨h, c, A0, _, rfl, p2, SqL.of e2, by rw [List.length_map, List.length_range]; omega, fun N ys H3 p3 b3 _ fn1 fn2 eN pm => ?_⟩
    obtain ⟨zs, rfl, pz⟩ := perm_ints pm
    obtain ⟨lz, nz, rz⟩ := perm_names pz
    refine ⟨by show 0 ≤ sizeLine; decide, fun R hR => ?_⟩
    obtain ⟨fr1, fr2⟩ := p3.ne hR
    have hNR : N ≠ R := ne_of_none eN hR
    have s4 : Same H3 (upd H3 R (.lst [])) := same_upd hR
    have e4 : (upd H3 R (.lst [])) R = some (.lst []) := upd_same
    generalize upd H3 R (.lst []) = H4 at s4 e4 ⊢
    have p4 := p3.same s4
    have eN4 := s4 _ _ eN
    refine ⟨_, rfl, _, rfl, _, rfl, h, c, n, rfl, p4, n0, by omega, fun F5 H5 p5 b5 N5 => ?_⟩
    obtain ⟨xs5, ps5, ex5, pr5, g5, l5⟩ := N5.ex
    have lx5 := pr5.len
    refine ⟨h, c, F5, xs5, rfl, p5, SqL.of ex5, by omega, fun G ys6 H6 p6 b6 _ fg1 fg2 eG pm6 => ?_⟩
    have eR6 := b6 _ _ (b5 _ _ e4 fr1 fr2) fr1 fr2
    have eN6 := b6 _ _ (b5 _ _ eN4 fn1 fn2) fn1 fn2
    have n56 := b6.nl p5
    have pr6 : ∀ x ∈ ys6, ∃ p, Good n p ∧ PrV H6 x p := fun x hx => by
      obtain ⟨p, h1, h2⟩ := pr5.mem (pm6.mem_iff.mp hx)
      exact ⟨p, g5 p h1, PrV_nl h2 n56⟩
    have ly6 : ys6.length ≤ 8 := by
      have := pm6.length_eq
      omega
    have ly1 : 1 ≤ ys6.length := by
      have := pm6.length_eq
      omega
    have hGR : G ≠ R := fun z => by
      subst z
      rw [eR6] at eG
      injection eG with eG
      injection eG with eG
      rw [← eG] at ly1
      simp at ly1
    refine ⟨G, rfl, ⟨_, SqL.of eG⟩, for_list (xs := ys6) (fun i σ' H' => ∃ (o4 o5 : Option V) (rs : List V) (qs : List (Int × Int)), σ' = [some (.ref h), some (.int n), some (.ref N), some (.ref R), o4, o5, none, none, none] ∧ PoolAt H' h c ∧ Bt h c H H' ∧
        H' G = some (.lst ys6) ∧ H' N = some (.lst (zs.map V.int)) ∧ H' R = some (.lst rs) ∧ NL H6 H' ∧ PrA H' rs qs ∧ (∀ p ∈ qs, Good n p) ∧ qs.length = i)
      ⟨none, none, [], [], rfl, p6, (b1.trans (Bt.of s2)).trans (b3.trans ((Bt.of s4).trans (b5.trans b6))), eG, eN6, eR6, NL.refl _, .nil, fun _ z => (nomatch z), rfl⟩ (fun i σ' H' _ ⟨_, _, _, _, _, _, _, e, _⟩ => SqL.of e) ?_ ?_⟩
    · rintro i v σ' H7 hv ⟨o4, o5, rs, qs, rfl, p7, b7, eG7, eN7, eR7, n67, pr7, g7, l7⟩
      have hi : i < ys6.length := (List.getElem?_eq_some_iff.mp hv).1
      obtain ⟨p, gp, pv⟩ := pr6 v (List.mem_of_getElem? hv)
      obtain ⟨qq, rfl, eqq⟩ := PrV_nl pv n67
      have lr := pr7.len
      obtain ⟨a1, hb1⟩ : ∃ j : Nat, p.1 = j := ⟨p.1.toNat, by have := gp.1; omega⟩
      obtain ⟨a2, hb2⟩ : ∃ j : Nat, p.2 = j := ⟨p.2.toNat, by have := gp.2.2.1; omega⟩
      have q1 : a1 < zs.length := by have := gp.2.1; omega
      have q2 : a2 < zs.length := by have := gp.2.2.2.1; omega
      have q3 : a1 ≠ a2 := fun z => gp.2.2.2.2 (by rw [hb1, hb2, z])
      have at1 : (zs.map V.int)[a1]? = some (V.int zs[a1]) := by rw [List.getElem?_map, List.getElem?_eq_getElem q1]; rfl
      have at2 : (zs.map V.int)[a2]? = some (V.int zs[a2]) := by rw [List.getElem?_map, List.getElem?_eq_getElem q2]; rfl
      refine ⟨qq, _, rfl, SqT.of eqq, rfl, _, _, rfl, _, _, rfl, rfl, ?_⟩
      rw [hb1, hb2]
      refine ⟨_, rfl, .inl ⟨rfl, _, SqL.of eR7⟩, _, rfl, _, rfl, N, _, (a1 : Nat), _, rfl, rfl, SqL.of eN7, atI_nat at1, _, rfl, _, rfl, N, _, (a2 : Nat), _, rfl, rfl, SqL.of eN7, atI_nat at2, by show 2 ≤ sizeLine; decide, fun u hu => ?_⟩
      have s8 : Same H7 (upd H7 u (.tup [.int zs[a1], .int zs[a2]])) := same_upd hu
      have e8 : (upd H7 u (.tup [.int zs[a1], .int zs[a2]])) u = some (.tup [.int zs[a1], .int zs[a2]]) := upd_same
      generalize upd H7 u (.tup [.int zs[a1], .int zs[a2]]) = H8 at s8 e8 ⊢
      have gd : Good n (zs[a1], zs[a2]) := by
        have r1 := rz _ (List.getElem_mem q1)
        have r2 := rz _ (List.getElem_mem q2)
        refine ⟨r1.1, by show zs[a1] < n; omega, r2.1, by show zs[a2] < n; omega, fun z => ?_⟩
        exact q3 ((List.getElem_inj nz).mp z)
      have eR8 := s8 _ _ eR7
      have hRH : H3 R = none := hR
      refine ⟨R, rs, _, rfl, rfl, eR8, line_lt (by omega), ?_⟩
      refine ⟨_, _, rs ++ [.ref u], qs ++ [(zs[a1], zs[a2])], rfl, (p7.same s8).upd fr1 fr2, ?_, ?_, ?_, upd_same, ?_, ?_, good_app g7 (good_one gd), by rw [List.length_append, l7]; rfl⟩
      · refine (b7.trans (Bt.of s8)).upd ?_
        exact ((b1.trans (Bt.of s2)).trans b3).free fr1 fr2 hR
      · rw [upd_ne hGR]; exact s8 _ _ eG7
      · rw [upd_ne hNR]; exact s8 _ _ eN7
      · exact n67.trans ((NL.of s8).trans (NL.upd eR8))
      · exact ((pr7.nl (NL.of s8)).app (.cons ⟨u, rfl, e8⟩ .nil)).nl (NL.upd eR8)
    · rintro σ' H7 ⟨o4, o5, rs, qs, rfl, p7, b7, eG7, eN7, eR7, n67, pr7, g7, l7⟩
      have lr := pr7.len
      refine ⟨_, rfl, R, rfl, ⟨_, SqL.of eR7⟩, fun D1 hD1 => lc_cnt (m := rs.length) p7 eR7 fr1 fr2 rfl (by omega) hD1 (fun x => rfl) (fun v H' Q' p' kz => ?_) (fun H8 ms p8 b8 e8 lm hm => ?_)⟩
      · exact ⟨_, rfl, h, c, 3, rfl, p', by decide, by decide, fun y H3 y0 y1 p3 b3 => ⟨_, _, rfl, rfl, kz _ _ (by omega) (by omega) p3 b3⟩⟩
      refine ⟨_, _, rfl, .inl ⟨SqL.of e8, fun q hq => ?_⟩⟩
      have s9 : Same H8 (upd H8 q (.tup (ms.map V.int))) := same_upd hq
      have t9 : (upd H8 q (.tup (ms.map V.int))) q = some (.tup (ms.map V.int)) := upd_same
      generalize upd H8 q (.tup (ms.map V.int)) = H9 at s9 t9 ⊢
      have p9 := p8.same s9
      have eR9 := s9 _ _ (b8 _ _ eR7 fr1 fr2)
      have n79 := (b8.nl p7).trans (NL.of s9)
      refine ⟨_, rfl, R, rfl, ⟨_, SqL.of eR9⟩, fun D2 hD2 => lc_cnt (m := rs.length) p9 eR9 fr1 fr2 rfl (by omega) hD2 (fun x => rfl) (fun v H' Q' p' kz => ?_) (fun H10 us p10 b10 e10 lu hu => ?_)⟩
      · exact ⟨_, rfl, h, c, 3, rfl, p', by decide, by decide, fun y H3 y0 y1 p3 b3 => ⟨_, _, rfl, rfl, kz _ _ (by omega) (by omega) p3 b3⟩⟩
      refine ⟨_, _, rfl, .inl ⟨SqL.of e10, fun u hu2 => ?_⟩⟩
      have s11 : Same H10 (upd H10 u (.tup (us.map V.int))) := same_upd hu2
      have t11 : (upd H10 u (.tup (us.map V.int))) u = some (.tup (us.map V.int)) := upd_same
      generalize upd H10 u (.tup (us.map V.int)) = H11 at s11 t11 ⊢
      have eR11 := s11 _ _ (b10 _ _ eR9 fr1 fr2)
      have n911 := (b10.nl p9).trans (NL.of s11)
      refine ⟨_, rfl, _, rfl, R, rs, rfl, .inl ⟨SqL.of eR11, fun t ht => ?_⟩⟩
      have s12 : Same H11 (upd H11 t (.tup rs)) := same_upd ht
      have t12 : (upd H11 t (.tup rs)) t = some (.tup rs) := upd_same
      generalize upd H11 t (.tup rs) = H12 at s12 t12 ⊢
      refine ⟨_, rfl, _, rfl, by show 4 ≤ sizeLine; decide, fun z hz => ?_⟩
      have s13 : Same H12 (upd H12 z (.tup [.int n, .ref t, .ref q, .ref u])) := same_upd hz
      have t13 : (upd H12 z (.tup [.int n, .ref t, .ref q, .ref u])) z = some (.tup [.int n, .ref t, .ref q, .ref u]) := upd_same
      generalize upd H12 z (.tup [.int n, .ref t, .ref q, .ref u]) = H13 at s13 t13 ⊢
      refine k (.ref z) n qs ms us H13 (((p10.same s11).same s12).same s13) ?_ ?_ (by omega)
      · exact b7.trans (b8.trans ((Bt.of s9).trans (b10.trans (Bt.of ((s11.trans s12).trans s13)))))
      · exact webP_mk t13 (s13 _ _ t12) (pr7.nl (n79.trans (n911.trans (NL.of (s12.trans s13))))) (s13 _ _ (s12 _ _ (n911.tup t9))) (s13 _ _ (s12 _ _ t11)) n0 (by omega) (by omega) (by omega) g7 (by omega) (by omega) hm hu
end
end Hc

set_option Elab.async false
set_option linter.all false
set_option maxRecDepth 100000
set_option maxHeartbeats 4000000
set_option autoImplicit false
namespace Hc
open PySem L2
section
variable {P : Program} {w : World} {K : PySem.W.Frag} {mg : Str → Option Value} {base : Heap}
/-- behind the change -/
def BInv (h pw q L x3 x4 : V) (n : Int) (at_ b e kd : Int) (ha ca la : Addr) (m : Nat) (H : Hp) : St → Hp → Prop := fun σ' H' => ∃ (ov : Option V) (zs : List V) (qs : List (Int × Int)),
  σ' = [some h, some pw, some (.int n), some q, some x3, some x4, some (.int at_), some (.int b), some (.int e), some (.int kd), some L, ov, none] ∧
  PoolAt H' ha ca ∧ Bt ha ca H H' ∧ H' la = some (.lst zs) ∧ PrA H' zs qs ∧ (∀ p ∈ qs, Good n p) ∧ 1 ≤ qs.length ∧ qs.length ≤ m + 1
def spBent : Sp := fun vs H Q _ => ∃ (h c : Addr) (v : V) (n : Int) (ps : List (Int × Int)) (rm tm : List Int), vs = [.ref h, v] ∧ PoolAt H h c ∧ WebP H v n ps rm tm ∧ ps.length ≤ 22 ∧
  ∀ v' ps' rm' tm' H', PoolAt H' h c → Bt h c H H' → WebP H' v' n ps' rm' tm' → ps'.length ≤ ps.length + 1 → Q v' H'
theorem ok__law_bent (T : Tx K mg) : FnOk P w K mg base CX0 2 T._law_bent.f T._law_bent.fd ["_law_pool_here", "_law_parts"] spBent := by
  refine T._law_bent.F.ok sc_law_bent (fun vs H Q E h => ?_) (fun cdv A outer s H vs Q E hr h => ?_)
  · obtain ⟨h, c, v, n, ps, rm, tm, rfl, _⟩ := h
    rfl
  · obtain ⟨h, c, v, n, ps, rm, tm, rfl, hA, W, l22, k⟩ := h
    obtain ⟨pw, q, x3, x4, xs, rfl, ew, eq, pr, hz, _, _⟩ := W.inv
    have n0 := W.n0
    have n1 := W.n1
    have m0 := W.l0
    have g := W.g
    have lx := pr.len
    refine ⟨_, (pss_cons (ps_asg (pv 1) (pg_tup (by rfl) (pgs_cons (pg_name (i := 2) sc_law_bent.nd rfl (Or.inl rfl)) (pgs_cons (pg_name (i := 3) sc_law_bent.nd rfl (Or.inl rfl)) (pgs_cons (pg_name (i := 4) sc_law_bent.nd rfl (Or.inl rfl)) (pgs_cons (pg_name (i := 5) sc_law_bent.nd rfl (Or.inl rfl)) pgs_nil))))))
      (pss_cons (ps_set (i := 6) sc_law_bent.nd rfl (Or.inl rfl) (pe_call (ok__law_draw T) (hr.mono (by decide)) rfl T._law_draw.g T._law_draw.F.kp T._law_draw.b .nil pass0 (pa_cons (pv 0) (pa_cons (pe_callB call_len_seq (by rfl) T.n_len (by decide +kernel) (pa_cons (pv 3) pa_nil)) pa_nil))))
      (pss_cons (ps_asg (pe_ix ix_tup (pv 3) (pv 6) (fun _ _ => rfl)) (pg_tup (by rfl) (pgs_cons (pg_name (i := 7) sc_law_bent.nd rfl (Or.inl rfl)) (pgs_cons (pg_name (i := 8) sc_law_bent.nd rfl (Or.inl rfl)) pgs_nil))))
      (pss_cons (ps_set (i := 9) sc_law_bent.nd rfl (Or.inl rfl) (pe_call (ok__law_draw T) (hr.mono (by decide)) rfl T._law_draw.g T._law_draw.F.kp T._law_draw.b .nil pass0 (pa_cons (pv 0) (pa_cons pe_int pa_nil))))
      (pss_cons (ps_set (i := 10) sc_law_bent.nd rfl (Or.inl rfl) (pe_callTy call_list_of (by rfl) T.n_list (by decide +kernel) (pa_cons (pv 3) pa_nil)))
      (C8.pss_cut (ps_if (PW.pt (pw_and (pt_cmpR op_eq (pv 9) pe_int (nomark _)) (pw_and1 (pt_cmpR op_gt (pe_callB call_len_seq (by rfl) T.n_len (by decide +kernel) (pa_cons (pv 3) pa_nil)) pe_int (nomark _)))))
      (pss_one (ps_expr (pe_bm PySem.F.plainAttrs_list PySem.F.slot_list_pop PySem.F.type_list_pop mt_popAt (pv 10) (pa_cons (pv 6) pa_nil))))
      (pss_one (ps_if (pt_cmpR op_eq (pv 9) pe_int (nomark _))
      (pss_one (ps_expr (pe_bm PySem.F.plainAttrs_list PySem.F.slot_list_append PySem.F.type_list_append mt_append (pv 10) (pa_cons (pe_tup (pa_cons (pv 8) (pa_cons (pv 7) pa_nil))) pa_nil))))
      (pss_one (ps_if (pt_cmpR op_eq (pv 9) pe_int (nomark _))
      (pss_one (ps_asg (pe_tup (pa_cons (pv 8) (pa_cons (pv 7) pa_nil))) (pg_sub (pv 10) (pv 6) set_list)))
      (pss_cons (ps_set (i := 11) sc_law_bent.nd rfl (Or.inl rfl) (pe_call (ok__law_draw T) (hr.mono (by decide)) rfl T._law_draw.g T._law_draw.F.kp T._law_draw.b .nil pass0 (pa_cons (pv 0) (pa_cons (pv 2) pa_nil))))
      (pss_one (ps_if (pt_cmpR op_ne (pv 11) (pv 7) (nomark _))
      (pss_one (ps_asg (pe_tup (pa_cons (pv 7) (pa_cons (pv 11) pa_nil))) (pg_sub (pv 10) (pv 6) set_list)))
      pss_nil))))))))
      (pss_cons (ps_set (i := 12) sc_law_bent.nd rfl (Or.inl rfl) (pe_op op_repA (pe_tup (pa_cons pe_int pa_nil)) (pe_callB call_len_seq (by rfl) T.n_len (by decide +kernel) (pa_cons (pv 10) pa_nil))))
      (pss_one (ps_ret (pe_tup (pa_cons (pv 2) (pa_cons (pe_callTy call_tuple_of (by rfl) T.n_tuple (by decide +kernel) (pa_cons (pv 10) pa_nil)) (pa_cons (pv 12) (pa_cons (pv 12) pa_nil)))))))))))))), ?_⟩
    refine ⟨_, rfl, pw, _, rfl, SqT.of ew, rfl, _, _, rfl, _, _, rfl, _, _, rfl, _, _, rfl, rfl, ?_⟩
    refine ⟨_, rfl, _, rfl, q, _, rfl, .inr (SqT.of eq), h, c, (xs.length : Nat), rfl, hA, by omega, by omega, fun x H1 x0 x1 p1 b1 => ?_⟩
    obtain ⟨j, rfl⟩ : ∃ j : Nat, x = j := ⟨x.toNat, by omega⟩
    have hj : j < xs.length := by omega
    have eq1 := (b1.nl hA).tup eq
    have pr1 := pr.nl (b1.nl hA)
    obtain ⟨p, hp, qq, eqx, eqq⟩ := pr1.get (List.getElem?_eq_getElem hj)
    have gp := g p (List.mem_of_getElem? hp)
    refine ⟨_, rfl, _, rfl, q, xs, (j : Nat), _, rfl, rfl, SqT.of eq1, atI_nat (List.getElem?_eq_getElem hj), ?_⟩
    refine ⟨qq, _, eqx, SqT.of eqq, rfl, _, _, rfl, _, _, rfl, rfl, ?_⟩
    refine ⟨_, rfl, h, c, 4, rfl, p1, by decide, by decide, fun kd H2 _ _ p2 b2 => ?_⟩
    have n12 := b2.nl p1
    have eq2 := n12.tup eq1
    have pr2 := pr1.nl n12
    refine ⟨_, rfl, q, xs, rfl, .inr (SqT.of eq2), fun L hL => ?_⟩
    obtain ⟨f1, f2⟩ := p2.ne hL
    have hL0 : H L = none := (b1.trans b2).free f1 f2 hL
    have s3 : Same H2 (upd H2 L (.lst xs)) := same_upd hL
    have e3 : (upd H2 L (.lst xs)) L = some (.lst xs) := upd_same
    generalize upd H2 L (.lst xs) = H3 at s3 e3 ⊢
    have p3 := p2.same s3
    have b3 := (b1.trans b2).trans (Bt.of s3)
    have pr3 := pr2.nl (NL.of s3)
    have eq3 := s3 _ _ eq2
    have sx : ixN xs.length (j : Int) = some j := by unfold ixN; rw [if_pos (by omega), if_pos (by omega)]; rfl
    have stay : ∀ (ov : Option V) (H4 : Hp), Bt h c H3 H4 → PoolAt H4 h c → BInv (.ref h) (.ref pw) (.ref q) (.ref L) x3 x4 n j p.1 p.2 kd h c L ps.length H [some (.ref h), some (.ref pw), some (.int n), some (.ref q), some x3, some x4, some (.int (j : Nat)), some (.int p.1), some (.int p.2), some (.int kd), some (.ref L), ov, none] H4 := fun ov H4 b4 p4 =>
      ⟨ov, xs, ps, rfl, p4, b3.trans b4, b4 _ _ e3 f1 f2, pr3.nl (b4.nl p3), g, by omega, by omega⟩
    have put : ∀ (ov : Option V) (u : Addr) (r : Int × Int) (H4 : Hp), Bt h c H3 H4 → PoolAt H4 h c → Good n r → H4 u = none → BInv (.ref h) (.ref pw) (.ref q) (.ref L) x3 x4 n j p.1 p.2 kd h c L ps.length H [some (.ref h), some (.ref pw), some (.int n), some (.ref q), some x3, some x4, some (.int (j : Nat)), some (.int p.1), some (.int p.2), some (.int kd), some (.ref L), ov, none] (upd (upd H4 u (.tup [.int r.1, .int r.2])) L (.lst (xs.set j (.ref u)))) := fun ov u r H4 b4 p4 gr hu => by
      have s5 : Same H4 (upd H4 u (.tup [.int r.1, .int r.2])) := same_upd hu
      have e4 := b4 _ _ e3 f1 f2
      have pr4 := (pr3.nl (b4.nl p3)).nl (NL.of s5)
      exact ⟨ov, _, _, rfl, (p4.same s5).upd f1 f2, ((b3.trans b4).trans (Bt.of s5)).upd hL0, upd_same, (pr4.setAt j ⟨u, rfl, upd_same⟩).nl (NL.upd (s5 _ _ e4)), good_set g gr, by rw [List.length_set]; omega, by rw [List.length_set]; omega⟩
    refine ⟨BInv (.ref h) (.ref pw) (.ref q) (.ref L) x3 x4 n j p.1 p.2 kd h c L ps.length H, ?_, ?_⟩
    · refine ⟨_, rfl, rfl, _, rfl, ite2 (fun _ => ?_) (fun _ => ?_)⟩
      · refine ⟨_, rfl, q, _, rfl, .inr (SqT.of eq3), _, _, rfl, rfl, _, rfl, ite2 (fun hgt => ?_) (fun _ => ?_)⟩
        · have hgt : (1 : Int) < (xs.length : Nat) := of_decide_eq_true hgt
          refine ⟨_, rfl, .inl ⟨rfl, _, SqL.of e3⟩, _, rfl, L, xs, _, j, _, rfl, rfl, e3, by omega, by omega, (ixN_seq sx).1, List.getElem?_eq_getElem hj, ?_⟩
          have hjp : j < ps.length := by omega
          exact ⟨none, _, _, rfl, p3.upd f1 f2, b3.upd hL0, upd_same, (pr3.era j).nl (NL.upd e3), good_era g, by rw [List.length_eraseIdx, if_pos hjp]; omega, by rw [List.length_eraseIdx, if_pos hjp]; omega⟩
        · refine ⟨_, rfl, rfl, _, rfl, ite2 (fun _ => ?_) (fun _ => ?_)⟩
          · refine ⟨_, rfl, .inl ⟨rfl, _, SqL.of e3⟩, _, rfl, _, rfl, by show 2 ≤ sizeLine; decide, fun u hu => ?_⟩
            have s4 : Same H3 (upd H3 u (.tup [.int p.2, .int p.1])) := same_upd hu
            have e4 := s4 _ _ e3
            refine ⟨L, xs, _, rfl, rfl, e4, line_lt (by omega), ?_⟩
            exact ⟨none, _, ps ++ [(p.2, p.1)], rfl, (p3.same s4).upd f1 f2, (b3.trans (Bt.of s4)).upd hL0, upd_same, ((pr3.nl (NL.of s4)).app (.cons ⟨u, rfl, upd_same⟩ .nil)).nl (NL.upd e4), good_app g (good_one (good_flip gp)), by rw [List.length_append]; omega, by rw [List.length_append]; exact Nat.le_refl _⟩
          · refine ⟨_, rfl, rfl, _, rfl, ite2 (fun _ => ?_) (fun _ => ?_)⟩
            · refine ⟨_, rfl, _, rfl, by show 2 ≤ sizeLine; decide, fun u hu => ?_⟩
              refine ⟨_, rfl, _, rfl, L, xs, _, j, rfl, rfl, by rw [upd_ne (ne_of_none e3 hu)]; exact e3, sx, ?_⟩
              exact put none u (p.2, p.1) H3 (Bt.refl h c H3) p3 (good_flip gp) hu
            · refine ⟨_, rfl, _, rfl, h, c, n, rfl, p3, by omega, by omega, fun o H4 o0 o1 p4 b4 => ?_⟩
              refine ⟨_, rfl, _, rfl, rfl, _, rfl, ite2 (fun hne => ?_) (fun _ => stay _ H4 b4 p4)⟩
              rw [int_eqd] at hne
              have hne : ¬ o = p.1 := fun z => by rw [decide_eq_true z] at hne; cases hne
              refine ⟨_, rfl, _, rfl, by show 2 ≤ sizeLine; decide, fun u hu => ?_⟩
              have e4 := b4 _ _ e3 f1 f2
              refine ⟨_, rfl, _, rfl, L, xs, _, j, rfl, rfl, by rw [upd_ne (ne_of_none e4 hu)]; exact e4, sx, ?_⟩
              exact put _ u (p.1, o) H4 b4 p4 ⟨gp.1, gp.2.1, o0, o1, fun z => hne z.symm⟩ hu
      · refine ⟨_, rfl, rfl, _, rfl, ite2 (fun _ => ?_) (fun _ => ?_)⟩
        · refine ⟨_, rfl, .inl ⟨rfl, _, SqL.of e3⟩, _, rfl, _, rfl, by show 2 ≤ sizeLine; decide, fun u hu => ?_⟩
          have s4 : Same H3 (upd H3 u (.tup [.int p.2, .int p.1])) := same_upd hu
          have e4 := s4 _ _ e3
          refine ⟨L, xs, _, rfl, rfl, e4, line_lt (by omega), ?_⟩
          exact ⟨none, _, ps ++ [(p.2, p.1)], rfl, (p3.same s4).upd f1 f2, (b3.trans (Bt.of s4)).upd hL0, upd_same, ((pr3.nl (NL.of s4)).app (.cons ⟨u, rfl, upd_same⟩ .nil)).nl (NL.upd e4), good_app g (good_one (good_flip gp)), by rw [List.length_append]; omega, by rw [List.length_append]; exact Nat.le_refl _⟩
        · refine ⟨_, rfl, rfl, _, rfl, ite2 (fun _ => ?_) (fun _ => ?_)⟩
          · refine ⟨_, rfl, _, rfl, by show 2 ≤ sizeLine; decide, fun u hu => ?_⟩
            refine ⟨_, rfl, _, rfl, L, xs, _, j, rfl, rfl, by rw [upd_ne (ne_of_none e3 hu)]; exact e3, sx, ?_⟩
            exact put none u (p.2, p.1) H3 (Bt.refl h c H3) p3 (good_flip gp) hu
          · refine ⟨_, rfl, _, rfl, h, c, n, rfl, p3, by omega, by omega, fun o H4 o0 o1 p4 b4 => ?_⟩
            refine ⟨_, rfl, _, rfl, rfl, _, rfl, ite2 (fun hne => ?_) (fun _ => stay _ H4 b4 p4)⟩
            rw [int_eqd] at hne
            have hne : ¬ o = p.1 := fun z => by rw [decide_eq_true z] at hne; cases hne
            refine ⟨_, rfl, _, rfl, by show 2 ≤ sizeLine; decide, fun u hu => ?_⟩
            have e4 := b4 _ _ e3 f1 f2
            refine ⟨_, rfl, _, rfl, L, xs, _, j, rfl, rfl, by rw [upd_ne (ne_of_none e4 hu)]; exact e4, sx, ?_⟩
            exact put _ u (p.1, o) H4 b4 p4 ⟨gp.1, gp.2.1, o0, o1, fun z => hne z.symm⟩ hu
    rintro σ1 H4 ⟨ov, zs, qs, rfl, p4, b4, eL, pz, gz, z0, z1⟩
    have lz := pz.len
    refine ⟨by show 1 ≤ sizeLine; decide, fun o ho => ?_⟩
    have s5 : Same H4 (upd H4 o (.tup [.int 1])) := same_upd ho
    have t5 : (upd H4 o (.tup [.int 1])) o = some (.tup [.int 1]) := upd_same
    generalize upd H4 o (.tup [.int 1]) = H5 at s5 t5 ⊢
    refine ⟨_, rfl, L, zs, rfl, .inl (SqL.of (s5 _ _ eL)), rep_ones t5 (by omega) (by omega) fun u H6 s6 eu => ?_⟩
    refine ⟨_, rfl, _, rfl, L, zs, rfl, .inl ⟨SqL.of (s6 _ _ (s5 _ _ eL)), fun t ht => ?_⟩⟩
    have s7 : Same H6 (upd H6 t (.tup zs)) := same_upd ht
    have t7 : (upd H6 t (.tup zs)) t = some (.tup zs) := upd_same
    generalize upd H6 t (.tup zs) = H7 at s7 t7 ⊢
    refine ⟨_, rfl, _, rfl, by show 4 ≤ sizeLine; decide, fun z hz => ?_⟩
    have s8 : Same H7 (upd H7 z (.tup [.int n, .ref t, .ref u, .ref u])) := same_upd hz
    have t8 : (upd H7 z (.tup [.int n, .ref t, .ref u, .ref u])) z = some (.tup [.int n, .ref t, .ref u, .ref u]) := upd_same
    generalize upd H7 z (.tup [.int n, .ref t, .ref u, .ref u]) = H8 at s8 t8 ⊢
    have sm := ((s5.trans s6).trans s7).trans s8
    refine k (.ref z) qs _ _ H8 (p4.same sm) (b4.trans (Bt.of sm)) (webP_mk t8 (s8 _ _ t7) (pz.nl (NL.of sm)) (s8 _ _ (s7 _ _ eu)) (s8 _ _ (s7 _ _ eu)) n0 n1 z0 (by omega) gz ?_ ?_ (ones_ok _) (ones_ok _)) z1
    · rw [List.length_replicate]; omega
    · rw [List.length_replicate]; omega
end
end Hc

set_option Elab.async false
set_option linter.all false
set_option maxRecDepth 100000
set_option maxHeartbeats 4000000
set_option autoImplicit false
namespace Hc
open PySem L2
theorem cut_drop1 (xs : List V) : cutV xs (some 1) none = xs.drop 1 := by
  have s1 : HT.sIx xs.length 0 (some 1) = min 1 xs.length := by
    show (if (1 : Int) < 0 then ((1 : Int) + (xs.length : Int)).toNat else min (1 : Int).toNat xs.length) = _
    rw [if_neg (by decide)]; rfl
  have s2 : HT.sIx xs.length xs.length none = xs.length := rfl
  unfold cutV
  rw [s1, s2]
  by_cases h : xs.length = 0
  · have : xs = [] := List.eq_nil_of_length_eq_zero h
    subst this; rfl
  · have m : min 1 xs.length = 1 := by omega
    rw [m]
    exact List.take_of_length_le (by rw [List.length_drop]; exact Nat.le_refl _)
theorem cut_last (xs : List V) : cutV xs none (some (-1)) = xs.take (xs.length - 1) := by
  have s1 : HT.sIx xs.length 0 none = 0 := rfl
  have s2 : HT.sIx xs.length xs.length (some (-1)) = xs.length - 1 := by
    show (if (-1 : Int) < 0 then ((-1 : Int) + (xs.length : Int)).toNat else min (-1 : Int).toNat xs.length) = _
    rw [if_pos (by decide)]
    omega
  unfold cutV
  rw [s1, s2, List.drop_zero, Nat.sub_zero]
/-- some web at v, of not too many roads -/
def Wb (H : Hp) (v : V) (B : Nat) : Prop := ∃ n ps rm tm, WebP H v n ps rm tm ∧ ps.length ≤ B
theorem Wb.nl {H H' : Hp} {v : V} {B : Nat} (x : Wb H v B) (k : NL H H') : Wb H' v B := by
  obtain ⟨n, ps, rm, tm, W, l⟩ := x
  exact ⟨n, ps, rm, tm, W.nl k, l⟩
theorem Wb.le {H : Hp} {v : V} {B B' : Nat} (x : Wb H v B) (h : B ≤ B') : Wb H v B' := by
  obtain ⟨n, ps, rm, tm, W, l⟩ := x
  exact ⟨n, ps, rm, tm, W, Nat.le_trans l h⟩
theorem scal_opt (o : Option Int) : scal (optV o) (optV o) = true := by cases o <;> rfl
theorem line_is (i : Nat) (hi : i < 11) : rootP ((2 + i : Nat) : Int) (ringP ((2 + i : Nat) : Int) (2 + i - 1)) = some ((1 + i : Nat) : Int) := line_root ⟨i, hi⟩
theorem ring_take (n : Int) (m k : Nat) (h : k ≤ m) : (ringP n m).take k = ringP n k := by
  unfold ringP
  rw [← List.map_take, List.take_range, Nat.min_eq_left h]
theorem drop_ones (m : Nat) : ((List.replicate m (1 : Int)).map V.int).drop 1 = (List.replicate (m - 1) (1 : Int)).map V.int := by
  rw [← List.map_drop, List.drop_replicate]
theorem atI_last {xs : List V} {y : V} : atI (xs ++ [y]) (-1) = some y := by
  unfold atI
  have : ixN (xs ++ [y]).length (-1) = some xs.length := by
    unfold ixN
    rw [if_neg (by decide), if_pos (by rw [List.length_append]; show -((xs.length + 1 : Nat) : Int) ≤ -1; omega)]
    congr 1
    rw [List.length_append]
    show (-1 + ((xs.length + 1 : Nat) : Int)).toNat = xs.length
    omega
  rw [this]
  show (xs ++ [y])[xs.length]? = some y
  simp
section
variable {P : Program} {w : World} {K : PySem.W.Frag} {mg : Str → Option Value} {base : Heap}
def spLaw (K : PySem.W.Frag) : Sp := fun vs H Q _ => ∃ (a : Addr) (ns : List Int), vs = [.ref a] ∧ SqL K H a (ns.map V.int) ∧ ns.length ≤ 63 ∧ ∀ H', Q (.bl true) H'
theorem ok_law (T : Tx K mg) : FnOk P w K mg base CX0 10 T.law.f T.law.fd ["_law_script"] (spLaw K) := by
  refine T.law.F.ok sc_law (fun vs H Q E h => ?_) (fun cdv A outer s H vs Q E hr h => ?_)
  · obtain ⟨a, ns, rfl, _⟩ := h
    rfl
  · obtain ⟨a, ns, rfl, hS, hl, k⟩ := h
    refine ⟨_, (pss_cons (ps_set (i := 1) sc_law.nd rfl (Or.inl rfl) (pe_call (ok__law_pool T) (hr.mono (by decide)) rfl T._law_pool.g T._law_pool.F.kp T._law_pool.b .nil pass0 (pa_cons (pv 0) pa_nil)))
      (pss_cons (ps_set (i := 2) sc_law.nd rfl (Or.inl rfl) (pe_call (ok__law_rooted T) (hr.mono (by decide)) rfl T._law_rooted.g T._law_rooted.F.kp T._law_rooted.b .nil pass0 (pa_cons (pv 1) pa_nil)))
      (pss_cons (ps_set (i := 3) sc_law.nd rfl (Or.inl rfl) (pe_op op_add pe_int (pe_call (ok__law_draw T) (hr.mono (by decide)) rfl T._law_draw.g T._law_draw.F.kp T._law_draw.b .nil pass0 (pa_cons (pv 1) (pa_cons pe_int pa_nil)))))
      (pss_cons (ps_set (i := 4) sc_law.nd rfl (Or.inl rfl) (pe_op op_repA (pe_tup (pa_cons pe_int pa_nil)) (pv 3)))
      (pss_cons (ps_set (i := 5) sc_law.nd rfl (Or.inl rfl) (pe_tup (pa_cons (pv 3) (pa_cons (pe_callTy call_tuple_of (by rfl) T.n_tuple (by decide +kernel) (pa_cons (pe_call (ok__law_ring_roads T) (hr.mono (by decide)) rfl T._law_ring_roads.g T._law_ring_roads.F.kp T._law_ring_roads.b .nil pass0 (pa_cons (pv 3) pa_nil)) pa_nil)) (pa_cons (pv 4) (pa_cons (pv 4) pa_nil))))))
      (pss_cons (ps_set (i := 6) sc_law.nd rfl (Or.inl rfl) (pe_tup (pa_cons (pv 3) (pa_cons (pe_slice sl_tupA (pe_ix ix_tup (pv 5) pe_int (fun _ _ => rfl)) po_none (po_some (pe_un un_neg pe_int))) (pa_cons (pe_slice sl_tupA (pv 4) (po_some pe_int) po_none) (pa_cons (pe_slice sl_tupA (pv 4) (po_some pe_int) po_none) pa_nil))))))
      (pss_cons (ps_set (i := 7) sc_law.nd rfl (Or.inl rfl) (pe_lst (pa_cons (pe_call (ok__law_great_web T) (hr.mono (by decide)) rfl T._law_great_web.g T._law_great_web.F.kp T._law_great_web.b .nil pass0 (pa_cons (pv 1) pa_nil)) (pa_cons (pv 5) (pa_cons (pv 6) (pa_cons (pe_call (ok__law_web T) (hr.mono (by decide)) rfl T._law_web.g T._law_web.F.kp T._law_web.b .nil pass0 (pa_cons (pv 1) (pa_cons pe_int pa_nil))) (pa_cons (pv 2) pa_nil)))))))
      (pss_cons (ps_for PassesOwn.never rfl (pi_range1 (by rfl) T.n_range (pa_cons pe_int pa_nil)) (pg_name (i := 8) sc_law.nd rfl (Or.inl rfl))
      (pss_one (ps_expr (pe_bm PySem.F.plainAttrs_list PySem.F.slot_list_append PySem.F.type_list_append mt_append (pv 7) (pa_cons (pe_call (ok__law_bent T) (hr.mono (by decide)) rfl T._law_bent.g T._law_bent.F.kp T._law_bent.b .nil pass0 (pa_cons (pv 1) (pa_cons (pe_call (ok__law_some T) (hr.mono (by decide)) rfl T._law_some.g T._law_some.F.kp T._law_some.b .nil pass0 (pa_cons (pv 1) (pa_cons (pe_lst (pa_cons (pv 2) (pa_cons (pv 6) (pa_cons (pe_ix ix_list (pv 7) (pe_un un_neg pe_int) (fun _ _ => rfl)) pa_nil)))) pa_nil))) pa_nil))) pa_nil)))))
      (pss_cons (ps_for PassesOwn.never rfl (pi_list (pv 7)) (pg_name (i := 9) sc_law.nd rfl (Or.inl rfl))
      (pss_cons (ps_set (i := 10) sc_law.nd rfl (Or.inl rfl) (pe_call (ok__law_root T) (hr.mono (by decide)) rfl T._law_root.g T._law_root.F.kp T._law_root.b .nil pass0 (pa_cons (pv 9) pa_nil)))
      (pss_cons (ps_set (i := 11) sc_law.nd rfl (Or.inl rfl) (pe_call (ok_root T) (hr.mono (by decide)) rfl T.root.g T.root.F.kp T.root.b .nil pass0 (pa_cons (pe_call (ok__law_made T) (hr.mono (by decide)) rfl T._law_made.g T._law_made.F.kp T._law_made.b .nil pass0 (pa_cons (pv 9) pa_nil)) pa_nil)))
      (pss_one (ps_if (PW.pt (pw_or (pt_cmpR op_ne (pv 11) (pv 10) (nomark _)) (pw_or1 (PW.pt (pw_and (pt_cmpR op_notN (pv 10) pe_non (nomark _)) (pw_and1 (pt_val (pe_callB call_isi (by rfl) T.n_isinstance (by decide +kernel) (pa_cons (pv 11) (pa_cons (pe_bltn (v := .ty "bool") (by rfl) T.n_bool (by decide +kernel) rfl) pa_nil))))))))))
      (pss_one (ps_ret pe_bl))
      pss_nil)))))
      (pss_cons (ps_set (i := 12) sc_law.nd rfl (Or.inl rfl) (pe_op op_catA (pe_tup (pa_cons (pe_ix ix_tup (pv 2) pe_int (fun _ _ => rfl)) (pa_cons (pe_ix ix_tup (pv 2) pe_int (fun _ _ => rfl)) pa_nil))) (pe_op op_repA (pe_tup (pa_cons (pe_op op_repA (pe_tup (pa_cons pe_int pa_nil)) (pe_callB call_len_seq (by rfl) T.n_len (by decide +kernel) (pa_cons (pe_ix ix_tup (pv 2) pe_int (fun _ _ => rfl)) pa_nil))) pa_nil)) pe_int)))
      (pss_cons (ps_if (pt_cmpR op_ne (pe_call (ok_root T) (hr.mono (by decide)) rfl T.root.g T.root.F.kp T.root.b .nil pass0 (pa_cons (pe_call (ok__law_made T) (hr.mono (by decide)) rfl T._law_made.g T._law_made.F.kp T._law_made.b .nil pass0 (pa_cons (pv 12) pa_nil)) pa_nil)) (pe_call (ok__law_root T) (hr.mono (by decide)) rfl T._law_root.g T._law_root.F.kp T._law_root.b .nil pass0 (pa_cons (pv 2) pa_nil)) (nomark _))
      (pss_one (ps_ret pe_bl))
      pss_nil)
      (pss_one (ps_ret (pe_cmpR op_eq (pe_call (ok_root T) (hr.mono (by decide)) rfl T.root.g T.root.F.kp T.root.b .nil pass0 (pa_cons (pe_call (ok__law_made T) (hr.mono (by decide)) rfl T._law_made.g T._law_made.F.kp T._law_made.b .nil pass0 (pa_cons (pv 6) pa_nil)) pa_nil)) (pe_op op_sub (pv 3) pe_int) (nomark _))))))))))))))), ?_⟩
    refine ⟨_, rfl, a, ns, rfl, hS, hl, fun h c H0 s0 p0 => ?_⟩
    refine ⟨_, rfl, h, c, rfl, p0, fun vR nR psR rmR tmR H1 p1 b1 WR lR => ?_⟩
    refine ⟨_, rfl, h, c, 11, rfl, p1, by decide, by decide, fun x H2 x0 x1 p2 b2 => ⟨_, _, rfl, rfl, ?_⟩⟩
    obtain ⟨i, rfl⟩ : ∃ i : Nat, x = i := ⟨x.toNat, by omega⟩
    have hi : i < 11 := by omega
    have hv : (fun i j => V.int (i + j)) 2 (i : Int) = V.int ((2 + i : Nat) : Int) := by show V.int _ = V.int _; congr 1
    rw [hv]
    obtain ⟨m, hm⟩ : ∃ m : Nat, m = 2 + i := ⟨_, rfl⟩
    rw [← hm]
    have m0 : 2 ≤ m := by omega
    have m1 : m ≤ 12 := by omega
    have WR2 := WR.nl (b2.nl p1)
    refine ⟨by show 1 ≤ sizeLine; decide, fun o ho => ?_⟩
    have s3 : Same H2 (upd H2 o (.tup [.int 1])) := same_upd ho
    have t3 : (upd H2 o (.tup [.int 1])) o = some (.tup [.int 1]) := upd_same
    generalize upd H2 o (.tup [.int 1]) = H3 at s3 t3 ⊢
    refine ⟨_, rfl, rep_ones t3 (by omega) (by omega) fun u H4 s4 eu => ?_⟩
    refine ⟨_, rfl, _, rfl, (m : Int), rfl, by omega, by omega, fun F H5 s5 _ X5 => ?_⟩
    obtain ⟨xs, eF, pr⟩ := X5
    rw [show ((m : Nat) : Int).toNat = m by omega] at pr
    have lx := pr.len
    rw [ring_len] at lx
    refine ⟨F, xs, rfl, .inl ⟨SqL.of eF, fun t ht => ?_⟩⟩
    have s6 : Same H5 (upd H5 t (.tup xs)) := same_upd ht
    have t6 : (upd H5 t (.tup xs)) t = some (.tup xs) := upd_same
    generalize upd H5 t (.tup xs) = H6 at s6 t6 ⊢
    refine ⟨_, rfl, _, rfl, by show 4 ≤ sizeLine; decide, fun z hz => ?_⟩
    have s7 : Same H6 (upd H6 z (.tup [.int (m : Nat), .ref t, .ref u, .ref u])) := same_upd hz
    have t7 : (upd H6 z (.tup [.int (m : Nat), .ref t, .ref u, .ref u])) z = some (.tup [.int (m : Nat), .ref t, .ref u, .ref u]) := upd_same
    generalize upd H6 z (.tup [.int (m : Nat), .ref t, .ref u, .ref u]) = H7 at s7 t7 ⊢
    have eu7 := s7 _ _ (s6 _ _ (s5 _ _ eu))
    have et7 := s7 _ _ t6
    have pr7 := pr.nl (NL.of (s6.trans s7))
    have WG : WebP H7 (.ref z) m (ringP m m) (List.replicate m 1) (List.replicate m 1) := webP_mk t7 et7 pr7 eu7 eu7 (by omega) (by omega) (by rw [ring_len]; omega) (by rw [ring_len]; omega) (ring_good (by omega) (by omega)) (by rw [List.length_replicate, ring_len]) (by rw [List.length_replicate, ring_len]) (ones_ok m) (ones_ok m)
    -- the line
    refine ⟨_, rfl, _, rfl, z, _, 1, _, rfl, rfl, SqT.of t7, atI_nat (j := 1) rfl, ?_⟩
    delta tNoPart
    refine ⟨_, rfl, _, rfl, ?_⟩
    refine slA_gen et7 fun q8 H8 s8 e8 => ?_
    rw [cut_last, lx] at e8
    refine ⟨_, rfl, _, rfl, ?_⟩
    refine slA_gen (s8 _ _ eu7) fun q9 H9 s9 e9 => ?_
    rw [cut_drop1, drop_ones] at e9
    refine ⟨_, rfl, _, rfl, ?_⟩
    refine slA_gen (s9 _ _ (s8 _ _ eu7)) fun q10 H10 s10 e10 => ?_
    rw [cut_drop1, drop_ones] at e10
    refine ⟨by show 4 ≤ sizeLine; decide, fun y hy => ?_⟩
    have s11 : Same H10 (upd H10 y (.tup [.int (m : Nat), .ref q8, .ref q9, .ref q10])) := same_upd hy
    have t11 : (upd H10 y (.tup [.int (m : Nat), .ref q8, .ref q9, .ref q10])) y = some (.tup [.int (m : Nat), .ref q8, .ref q9, .ref q10]) := upd_same
    generalize upd H10 y (.tup [.int (m : Nat), .ref q8, .ref q9, .ref q10]) = H11 at s11 t11 ⊢
    have sm := ((s8.trans s9).trans s10).trans s11
    have prL : PrA H11 (xs.take (m - 1)) (ringP m (m - 1)) := by
      have := (pr7.nl (NL.of sm)).take (m - 1)
      rw [ring_take _ _ _ (by omega)] at this
      exact this
    have WL : WebP H11 (.ref y) m (ringP m (m - 1)) (List.replicate (m - 1) 1) (List.replicate (m - 1) 1) := webP_mk t11 (s11 _ _ (s10 _ _ (s9 _ _ e8))) prL (s11 _ _ (s10 _ _ e9)) (s11 _ _ e10) (by omega) (by omega) (by rw [ring_len]; omega) (by rw [ring_len]; omega) (ring_good (by omega) (by omega)) (by rw [List.length_replicate, ring_len]) (by rw [List.length_replicate, ring_len]) (ones_ok _) (ones_ok _)
    have s211 := ((((s3.trans s4).trans s5).trans s6).trans s7).trans sm
    have p11 := p2.same s211
    have WG11 := WG.nl (NL.of sm)
    have WR11 := WR2.nl (NL.of s211)
    clear pr7 prL s211 sm s11 t11 hy e10 s10 e9 s9 e8 s8 WG et7 eu7 t7 s7 hz t6 s6 ht pr eF s5 eu s4 t3 s3 ho WR2 b2 p2 WR b1 p1 p0 s0 hS
    -- the webs
    refine ⟨_, rfl, h, rfl, h, c, rfl, p11, fun v12 n12 ps12 rm12 tm12 H12 p12 b12 W12 => ?_⟩
    refine ⟨_, rfl, _, rfl, _, rfl, h, c, rfl, p12, fun v13 n13 ps13 rm13 tm13 H13 p13 b13 W13 => ?_⟩
    have n1113 := (b12.nl p11).trans (b13.nl p12)
    have W12' := W12.nl (b13.nl p12)
    have WG13 := WG11.nl n1113
    have WL13 := WL.nl n1113
    have WR13 := WR11.nl n1113
    refine ⟨_, rfl, by show 5 ≤ sizeLine; decide, fun L hL => ?_⟩
    obtain ⟨f1, f2⟩ := p13.ne hL
    have s14 : Same H13 (upd H13 L (.lst [v12, .ref z, .ref y, v13, vR])) := same_upd hL
    have e14 : (upd H13 L (.lst [v12, .ref z, .ref y, v13, vR])) L = some (.lst [v12, .ref z, .ref y, v13, vR]) := upd_same
    generalize upd H13 L (.lst [v12, .ref z, .ref y, v13, vR]) = H14 at s14 e14 ⊢
    have p14 := p13.same s14
    have W12a := W12'.nl (NL.of s14)
    have W13a := W13.nl (NL.of s14)
    have WGa := WG13.nl (NL.of s14)
    have WLa := WL13.nl (NL.of s14)
    have WRa := WR13.nl (NL.of s14)
    clear W12 W12' W13 WG11 WG13 WL WL13 WR11 WR13 n1113 p11 p12 b12 b13 s14
    have all14 : ∀ x ∈ [v12, .ref z, .ref y, v13], Wb H14 x 24 := fun x hx => by
      simp only [List.mem_cons, List.not_mem_nil, or_false] at hx
      rcases hx with rfl | rfl | rfl | rfl
      · exact ⟨_, _, _, _, W12a, W12a.l1⟩
      · exact ⟨_, _, _, _, WGa, WGa.l1⟩
      · exact ⟨_, _, _, _, WLa, WLa.l1⟩
      · exact ⟨_, _, _, _, W13a, W13a.l1⟩
    refine ⟨4, rfl, by decide, by decide, for_range (lo := 0) (n := 4) (fun i σ' H' => ∃ (kv : Option V) (xs : List V) (yv : V), σ' = [some (.ref a), some (.ref h), some vR, some (.int (m : Nat)), some (.ref u), some (.ref z), some (.ref y), some (.ref L), kv, none, none, none, none] ∧ PoolAt H' h c ∧ NL H14 H' ∧
        H' L = some (.lst (xs ++ [yv])) ∧ xs.length = 4 + i ∧ (∀ x ∈ xs, Wb H' x 24) ∧ Wb H' yv (11 + i))
      ⟨none, [v12, .ref z, .ref y, v13], vR, rfl, p14, NL.refl _, e14, rfl, all14, ⟨_, _, _, _, WRa, by omega⟩⟩ ?_ ?_⟩
    · rintro j σ' H15 hj ⟨kv, xs, yv, rfl, p15, n15, e15, l15, a15, w15⟩
      refine ⟨_, rfl, .inl ⟨rfl, _, SqL.of e15⟩, _, rfl, _, rfl, _, rfl, _, rfl, _, rfl, _, rfl, L, _, -1, _, rfl, rfl, SqL.of e15, atI_last, by show 3 ≤ sizeLine; decide, fun q hq => ?_⟩
      have s16 : Same H15 (upd H15 q (.lst [vR, .ref y, yv])) := same_upd hq
      have e16 : (upd H15 q (.lst [vR, .ref y, yv])) q = some (.lst [vR, .ref y, yv]) := upd_same
      generalize upd H15 q (.lst [vR, .ref y, yv]) = H16 at s16 e16 ⊢
      have p16 := p15.same s16
      obtain ⟨g1, g2⟩ := p15.ne hq
      refine ⟨h, c, q, _, rfl, p16, e16, g1, g2, by show 0 < 3; decide, by show 3 ≤ 1000; decide, fun x hx H17 p17 b17 => ?_⟩
      have n17 := (NL.of s16).trans (b17.nl p16)
      have wx : Wb H17 x (11 + j) := by
        simp only [List.mem_cons, List.not_mem_nil, or_false] at hx
        rcases hx with rfl | rfl | rfl
        · exact ⟨_, _, _, _, WRa.nl (n15.trans n17), by omega⟩
        · exact ⟨_, _, _, _, WLa.nl (n15.trans n17), by rw [ring_len]; omega⟩
        · exact w15.nl n17
      obtain ⟨nx, psx, rmx, tmx, Wx, lx⟩ := wx
      have e17 := b17 _ _ (s16 _ _ e15) f1 f2
      refine ⟨h, c, x, nx, psx, rmx, tmx, rfl, p17, Wx, by omega, fun v' ps' rm' tm' H18 p18 b18 W18 l18 => ?_⟩
      have e18 := b18 _ _ e17 f1 f2
      have n18 := n17.trans (b18.nl p17)
      have nu : NL H18 (upd H18 L (.lst (xs ++ [yv] ++ [v']))) := NL.upd e18
      refine ⟨L, _, _, rfl, rfl, e18, line_lt (by rw [List.length_append]; show xs.length + 1 ≤ _; omega), ?_⟩
      refine ⟨_, xs ++ [yv], v', rfl, p18.upd f1 f2, n15.trans (n18.trans nu), upd_same, by rw [List.length_append, l15]; rfl, fun x hx => ?_, ⟨_, _, _, _, W18.nl nu, by omega⟩⟩
      rcases List.mem_append.mp hx with hx | hx
      · exact (a15 x hx).nl (n18.trans nu)
      · rw [List.mem_singleton] at hx
        subst hx
        exact (w15.nl (n18.trans nu)).le (by omega)
    · rintro σ' H15 ⟨kv, xs, yv, rfl, p15, n15, e15, l15, a15, w15⟩
      have all15 : ∀ x ∈ xs ++ [yv], Wb H15 x 24 := fun x hx => by
        rcases List.mem_append.mp hx with hx | hx
        · exact a15 x hx
        · rw [List.mem_singleton] at hx
          subst hx
          exact w15.le (by decide)
      have WRb := WRa.nl n15
      have WLb := WLa.nl n15
      clear a15 w15 l15 all14 W12a W13a WGa WLa WRa
      generalize xs ++ [yv] = ws at e15 all15
      refine ⟨_, rfl, L, rfl, ⟨_, SqL.of e15⟩, for_list (xs := ws) (fun i σ' H' => ∃ o9 o10 o11 : Option V, σ' = [some (.ref a), some (.ref h), some vR, some (.int (m : Nat)), some (.ref u), some (.ref z), some (.ref y), some (.ref L), kv, o9, o10, o11, none] ∧ Same H15 H')
        ⟨none, none, none, rfl, Same.refl _⟩ (fun i σ' H' _ ⟨_, _, _, _, s⟩ => SqL.of (s _ _ e15)) ?_ ?_⟩
      · rintro j x σ' H16 hx ⟨o9, o10, o11, rfl, s16⟩
        obtain ⟨nx, psx, rmx, tmx, Wx, _⟩ := all15 x (List.mem_of_getElem? hx)
        have Wx := Wx.nl (NL.of s16)
        refine ⟨_, rfl, _, nx, psx, rmx, tmx, rfl, Wx, fun H17 s17 => ?_⟩
        refine ⟨_, rfl, x, nx, psx, rmx, tmx, rfl, Wx.nl (NL.of s17), fun p H18 s18 W18 => ⟨p, nx, psx, rfl, W18, Wx.n0, Wx.n1, fun H19 s19 => ?_⟩⟩
        rw [roots_same Wx.n0 Wx.g]
        have sm := ((s16.trans s17).trans s18).trans s19
        refine ⟨_, rfl, _, rfl, scal_opt _, _, rfl, ?_⟩
        rw [decide_eq_true rfl]
        refine iteF ?_
        cases rootF nx psx with
        | none => exact ⟨_, rfl, rfl, _, rfl, iteF ⟨_, _, _, rfl, sm⟩⟩
        | some r =>
          refine ⟨_, rfl, rfl, _, rfl, iteT ?_⟩
          refine ⟨_, rfl, _, _, _, _, _, rfl, .ty "bool", .base (.int _), kit_ty (show kitB "int" "bool" = some false by decide +kernel), _, rfl, iteF ?_⟩
          exact ⟨_, _, _, rfl, sm⟩
      · rintro σ' H16 ⟨o9, o10, o11, rfl, s16⟩
        have WRc := WRb.nl (NL.of s16)
        have WLc := WLb.nl (NL.of s16)
        obtain ⟨pw, q, x3, x4, xr, ev, ew, eq, prR, hz, _, _⟩ := WRc.inv
        subst ev
        have lq := prR.len
        have r0 := WRc.l0
        have r1 := WRc.l1
        refine ⟨_, rfl, pw, _, 0, _, rfl, rfl, SqT.of ew, atI_nat (j := 0) rfl, _, rfl, pw, _, 1, _, rfl, rfl, SqT.of ew, atI_nat (j := 1) rfl, by show 2 ≤ sizeLine; decide, fun t17 ht17 => ?_⟩
        have s17 : Same H16 (upd H16 t17 (.tup [.int nR, .ref q])) := same_upd ht17
        have e17 : (upd H16 t17 (.tup [.int nR, .ref q])) t17 = some (.tup [.int nR, .ref q]) := upd_same
        generalize upd H16 t17 (.tup [.int nR, .ref q]) = H17 at s17 e17 ⊢
        refine ⟨by show 1 ≤ sizeLine; decide, fun t18 ht18 => ?_⟩
        have s18 : Same H17 (upd H17 t18 (.tup [.int 1])) := same_upd ht18
        have e18 : (upd H17 t18 (.tup [.int 1])) t18 = some (.tup [.int 1]) := upd_same
        generalize upd H17 t18 (.tup [.int 1]) = H18 at s18 e18 ⊢
        refine ⟨_, rfl, pw, _, 1, _, rfl, rfl, SqT.of (s18 _ _ (s17 _ _ ew)), atI_nat (j := 1) rfl, q, _, rfl, .inr (SqT.of (s18 _ _ (s17 _ _ eq))), rep_ones e18 (by omega) (by omega) fun u19 H19 s19 e19 => ?_⟩
        refine ⟨by show 1 ≤ sizeLine; decide, fun t20 ht20 => ?_⟩
        have s20 : Same H19 (upd H19 t20 (.tup [.ref u19])) := same_upd ht20
        have e20 : (upd H19 t20 (.tup [.ref u19])) t20 = some (.tup [.ref u19]) := upd_same
        generalize upd H19 t20 (.tup [.ref u19]) = H20 at s20 e20 ⊢
        refine ⟨t20, 2, _, rfl, rfl, SqT.of e20, by simp, by decide, by decide, by simp, fun e => by omega, fun _ t21 ht21 => ?_⟩
        have s21 : Same H20 (upd H20 t21 (.tup (List.replicate (2 : Int).toNat [V.ref u19]).flatten)) := same_upd ht21
        have e21 : (upd H20 t21 (.tup (List.replicate (2 : Int).toNat [V.ref u19]).flatten)) t21 = some (.tup [.ref u19, .ref u19]) := upd_same
        generalize upd H20 t21 (.tup (List.replicate (2 : Int).toNat [V.ref u19]).flatten) = H21 at s21 e21 ⊢
        refine ⟨t17, t21, _, _, rfl, rfl, SqT.of (s21 _ _ (s20 _ _ (s19 _ _ (s18 _ _ e17)))), SqT.of e21, by show 4 ≤ sizeLine; decide, fun e => (nomatch e), fun _ e => (nomatch e), fun _ _ t22 ht22 => ?_⟩
        have s22 : Same H21 (upd H21 t22 (.tup ([.int nR, .ref q] ++ [.ref u19, .ref u19]))) := same_upd ht22
        have e22 : (upd H21 t22 (.tup ([.int nR, .ref q] ++ [.ref u19, .ref u19]))) t22 = some (.tup [.int nR, .ref q, .ref u19, .ref u19]) := upd_same
        generalize upd H21 t22 (.tup ([.int nR, .ref q] ++ [.ref u19, .ref u19])) = H22 at s22 e22 ⊢
        have sm := (((((s17.trans s18).trans s19).trans s20).trans s21).trans s22)
        have eu22 := s22 _ _ (s21 _ _ (s20 _ _ e19))
        have WP : WebP H22 (.ref t22) nR psR _ _ := webP_mk e22 (sm _ _ eq) (prR.nl (NL.of sm)) eu22 eu22 WRc.n0 WRc.n1 r0 r1 WRc.g (by rw [List.length_replicate]; omega) (by rw [List.length_replicate]; omega) (ones_ok _) (ones_ok _)
        refine ⟨_, rfl, _, nR, psR, _, _, rfl, WP, fun p H23 s23 W23 => ⟨p, nR, psR, rfl, W23, WRc.n0, WRc.n1, fun H24 s24 => ?_⟩⟩
        refine ⟨_, rfl, _, nR, psR, _, _, rfl, WRc.nl (NL.of ((sm.trans s23).trans s24)), fun H25 s25 => ?_⟩
        rw [roots_same WRc.n0 WRc.g]
        refine ⟨scal_opt _, _, rfl, ?_⟩
        rw [decide_eq_true rfl]
        refine iteF ?_
        refine ⟨_, rfl, _, m, _, _, _, rfl, WLc.nl (NL.of (((sm.trans s23).trans s24).trans s25)), fun p2 H26 s26 W26 => ⟨p2, m, _, rfl, W26, WLc.n0, WLc.n1, fun H27 s27 => ?_⟩⟩
        subst hm
        rw [line_is i hi]
        refine ⟨_, rfl, _, _, rfl, rfl, rfl, ?_⟩
        have : decide (optV (some ((1 + i : Nat) : Int)) = V.int (((2 + i : Nat) : Int) - 1)) = true := decide_eq_true (by show V.int _ = V.int _; congr 1; omega)
        rw [this]
        exact k H27
end
end Hc

set_option Elab.async false
set_option linter.all false
set_option maxRecDepth 100000
set_option maxHeartbeats 4000000
set_option autoImplicit false
namespace Hc
open PySem L2
/-- an error of the class at S is what «except S» names -/
theorem exm_self {K : PySem.W.Frag} {S : Addr} (h1 : PySem.W.subIn K (.ref S) (.type "BaseException") = some true) (h2 : PySem.W.isClsIn K S = true) (h3 : PySem.W.typeIn K (.ref S) = some (.type "type")) (h4 : PySem.W.subIn K (.ref S) (.ref S) = some true) :
    PySem.W.exmOne K (.ref S) (.ref S) = some true := by
  have e1 : (PySem.W.subIn K (.ref S) (.type "BaseException") == some true) = true := by rw [h1] <;> rfl
  have e2 : ((PySem.W.clsIn K S).isSome && PySem.W.typeIn K (.ref S) == some (.type "type")) = true := by
    have h2' : (PySem.W.clsIn K S).isSome = true := h2
    rw [h2', h3] <;> rfl
  show (if (PySem.W.subIn K (.ref S) (.type "BaseException") == some true) = true then (if ((PySem.W.clsIn K S).isSome && PySem.W.typeIn K (.ref S) == some (.type "type")) = true then PySem.W.subIn K (.ref S) (.ref S) else none) else none) = some true
  rw [if_pos e1, if_pos e2]
  exact h4
theorem tx_mk {K : PySem.W.Frag} {h : Heap} {mg : Str → Option Value} (X : K.In h) (G : h.Ns mainGlobals mg)
    {fisqinteger : Addr} {odisqinteger anisqinteger : Option Addr} {slisqinteger : Array (Option Value)} {ocisqinteger kVisqinteger dcisqinteger pmisqinteger cdisqinteger ctisqinteger : Value}
    {fisqbetween : Addr} {odisqbetween anisqbetween : Option Addr} {slisqbetween : Array (Option Value)} {ocisqbetween kVisqbetween dcisqbetween pmisqbetween cdisqbetween ctisqbetween : Value}
    {fisqtuple : Addr} {odisqtuple anisqtuple : Option Addr} {slisqtuple : Array (Option Value)} {ocisqtuple kVisqtuple dcisqtuple pmisqtuple cdisqtuple ctisqtuple : Value}
    {fareqintegers : Addr} {odareqintegers anareqintegers : Option Addr} {slareqintegers : Array (Option Value)} {ocareqintegers kVareqintegers dcareqintegers pmareqintegers cdareqintegers ctareqintegers : Value}
    {fareqbetween : Addr} {odareqbetween anareqbetween : Option Addr} {slareqbetween : Array (Option Value)} {ocareqbetween kVareqbetween dcareqbetween pmareqbetween cdareqbetween ctareqbetween : Value}
    {fareqroads : Addr} {odareqroads anareqroads : Option Addr} {slareqroads : Array (Option Value)} {ocareqroads kVareqroads dcareqroads pmareqroads cdareqroads ctareqroads : Value}
    {fisqbeginqandqend : Addr} {odisqbeginqandqend anisqbeginqandqend : Option Addr} {slisqbeginqandqend : Array (Option Value)} {ocisqbeginqandqend kVisqbeginqandqend dcisqbeginqandqend pmisqbeginqandqend cdisqbeginqandqend ctisqbeginqandqend : Value}
    {froot : Addr} {odroot anroot : Option Addr} {slroot : Array (Option Value)} {ocroot kVroot dcroot pmroot cdroot ctroot : Value}
    {fqlawqpool : Addr} {odqlawqpool anqlawqpool : Option Addr} {slqlawqpool : Array (Option Value)} {ocqlawqpool kVqlawqpool dcqlawqpool pmqlawqpool cdqlawqpool ctqlawqpool : Value}
    {fqlawqdraw : Addr} {odqlawqdraw anqlawqdraw : Option Addr} {slqlawqdraw : Array (Option Value)} {ocqlawqdraw kVqlawqdraw dcqlawqdraw pmqlawqdraw cdqlawqdraw ctqlawqdraw : Value}
    {fqlawqsome : Addr} {odqlawqsome anqlawqsome : Option Addr} {slqlawqsome : Array (Option Value)} {ocqlawqsome kVqlawqsome dcqlawqsome pmqlawqsome cdqlawqsome ctqlawqsome : Value}
    {fqlawqfreeqroads : Addr} {odqlawqfreeqroads anqlawqfreeqroads : Option Addr} {slqlawqfreeqroads : Array (Option Value)} {ocqlawqfreeqroads kVqlawqfreeqroads dcqlawqfreeqroads pmqlawqfreeqroads cdqlawqfreeqroads ctqlawqfreeqroads : Value}
    {fqlawqtreeqroads : Addr} {odqlawqtreeqroads anqlawqtreeqroads : Option Addr} {slqlawqtreeqroads : Array (Option Value)} {ocqlawqtreeqroads kVqlawqtreeqroads dcqlawqtreeqroads pmqlawqtreeqroads cdqlawqtreeqroads ctqlawqtreeqroads : Value}
    {fqlawqringqroads : Addr} {odqlawqringqroads anqlawqringqroads : Option Addr} {slqlawqringqroads : Array (Option Value)} {ocqlawqringqroads kVqlawqringqroads dcqlawqringqroads pmqlawqringqroads cdqlawqringqroads ctqlawqringqroads : Value}
    {fqlawqweb : Addr} {odqlawqweb anqlawqweb : Option Addr} {slqlawqweb : Array (Option Value)} {ocqlawqweb kVqlawqweb dcqlawqweb pmqlawqweb cdqlawqweb ctqlawqweb : Value}
    {fqlawqgreatqweb : Addr} {odqlawqgreatqweb anqlawqgreatqweb : Option Addr} {slqlawqgreatqweb : Array (Option Value)} {ocqlawqgreatqweb kVqlawqgreatqweb dcqlawqgreatqweb pmqlawqgreatqweb cdqlawqgreatqweb ctqlawqgreatqweb : Value}
    {fqlawqmade : Addr} {odqlawqmade anqlawqmade : Option Addr} {slqlawqmade : Array (Option Value)} {ocqlawqmade kVqlawqmade dcqlawqmade pmqlawqmade cdqlawqmade ctqlawqmade : Value}
    {fqlawqmixed : Addr} {odqlawqmixed anqlawqmixed : Option Addr} {slqlawqmixed : Array (Option Value)} {ocqlawqmixed kVqlawqmixed dcqlawqmixed pmqlawqmixed cdqlawqmixed ctqlawqmixed : Value}
    {fqlawqrooted : Addr} {odqlawqrooted anqlawqrooted : Option Addr} {slqlawqrooted : Array (Option Value)} {ocqlawqrooted kVqlawqrooted dcqlawqrooted pmqlawqrooted cdqlawqrooted ctqlawqrooted : Value}
    {fqlawqroot : Addr} {odqlawqroot anqlawqroot : Option Addr} {slqlawqroot : Array (Option Value)} {ocqlawqroot kVqlawqroot dcqlawqroot pmqlawqroot cdqlawqroot ctqlawqroot : Value}
    {fqlawqbent : Addr} {odqlawqbent anqlawqbent : Option Addr} {slqlawqbent : Array (Option Value)} {ocqlawqbent kVqlawqbent dcqlawqbent pmqlawqbent cdqlawqbent ctqlawqbent : Value}
    {flaw : Addr} {odlaw anlaw : Option Addr} {sllaw : Array (Option Value)} {oclaw kVlaw dclaw pmlaw cdlaw ctlaw : Value}
    {tMOSTqHOUSES : Tok}
    {tMOSTqROADS : Tok}
    {tMOSTqROOMS : Tok}
    {tLONGESTqTIME : Tok}
    {CWWeb fWWeb : Addr} {odWWeb anWWeb : Option Addr} {slWWeb : Array (Option Value)} {ocWWeb kVWWeb dcWWeb pmWWeb cdWWeb ctWWeb : Value}
    {CXBadWeb fXBadWeb : Addr} {odXBadWeb anXBadWeb : Option Addr} {slXBadWeb : Array (Option Value)} {ocXBadWeb kVXBadWeb dcXBadWeb pmXBadWeb cdXBadWeb ctXBadWeb : Value} {nmXBadWeb qnXBadWeb : Str} {NXBadWeb : Addr} {bsXBadWeb bmXBadWeb : List Value} {snXBadWeb : List Str} {subXBadWeb : List Value} {abXBadWeb : Bool} {colXBadWeb : Option Bool} {ddXBadWeb : Option Addr} {m0XBadWeb m1XBadWeb m2XBadWeb m3XBadWeb m5XBadWeb : Option Value}
    (aisqinteger : PySem.W.nsIn K mainGlobals "is_integer" = some (some (.ref fisqinteger)))
    (lisqinteger : K.lookup fisqinteger = some ⟨ocisqinteger, odisqinteger, .func (PySem.W.fnOf "is_integer" "is_integer" (defArgs s_is_integer) (defBody s_is_integer) (defScope s_is_integer) .none kVisqinteger dcisqinteger pmisqinteger anisqinteger cdisqinteger ctisqinteger), slisqinteger⟩)
    (cisqinteger : PySem.W.codeIn K cdisqinteger "is_integer" = true)
    (kisqinteger : PySem.W.keepIn K (.ref fisqinteger) = true)
    (aisqbetween : PySem.W.nsIn K mainGlobals "is_between" = some (some (.ref fisqbetween)))
    (lisqbetween : K.lookup fisqbetween = some ⟨ocisqbetween, odisqbetween, .func (PySem.W.fnOf "is_between" "is_between" (defArgs s_is_between) (defBody s_is_between) (defScope s_is_between) .none kVisqbetween dcisqbetween pmisqbetween anisqbetween cdisqbetween ctisqbetween), slisqbetween⟩)
    (cisqbetween : PySem.W.codeIn K cdisqbetween "is_between" = true)
    (kisqbetween : PySem.W.keepIn K (.ref fisqbetween) = true)
    (aisqtuple : PySem.W.nsIn K mainGlobals "is_tuple" = some (some (.ref fisqtuple)))
    (lisqtuple : K.lookup fisqtuple = some ⟨ocisqtuple, odisqtuple, .func (PySem.W.fnOf "is_tuple" "is_tuple" (defArgs s_is_tuple) (defBody s_is_tuple) (defScope s_is_tuple) .none kVisqtuple dcisqtuple pmisqtuple anisqtuple cdisqtuple ctisqtuple), slisqtuple⟩)
    (cisqtuple : PySem.W.codeIn K cdisqtuple "is_tuple" = true)
    (kisqtuple : PySem.W.keepIn K (.ref fisqtuple) = true)
    (aareqintegers : PySem.W.nsIn K mainGlobals "are_integers" = some (some (.ref fareqintegers)))
    (lareqintegers : K.lookup fareqintegers = some ⟨ocareqintegers, odareqintegers, .func (PySem.W.fnOf "are_integers" "are_integers" (defArgs s_are_integers) (defBody s_are_integers) (defScope s_are_integers) .none kVareqintegers dcareqintegers pmareqintegers anareqintegers cdareqintegers ctareqintegers), slareqintegers⟩)
    (careqintegers : PySem.W.codeIn K cdareqintegers "are_integers" = true)
    (kareqintegers : PySem.W.keepIn K (.ref fareqintegers) = true)
    (aareqbetween : PySem.W.nsIn K mainGlobals "are_between" = some (some (.ref fareqbetween)))
    (lareqbetween : K.lookup fareqbetween = some ⟨ocareqbetween, odareqbetween, .func (PySem.W.fnOf "are_between" "are_between" (defArgs s_are_between) (defBody s_are_between) (defScope s_are_between) .none kVareqbetween dcareqbetween pmareqbetween anareqbetween cdareqbetween ctareqbetween), slareqbetween⟩)
    (careqbetween : PySem.W.codeIn K cdareqbetween "are_between" = true)
    (kareqbetween : PySem.W.keepIn K (.ref fareqbetween) = true)
    (aareqroads : PySem.W.nsIn K mainGlobals "are_roads" = some (some (.ref fareqroads)))
    (lareqroads : K.lookup fareqroads = some ⟨ocareqroads, odareqroads, .func (PySem.W.fnOf "are_roads" "are_roads" (defArgs s_are_roads) (defBody s_are_roads) (defScope s_are_roads) .none kVareqroads dcareqroads pmareqroads anareqroads cdareqroads ctareqroads), slareqroads⟩)
    (careqroads : PySem.W.codeIn K cdareqroads "are_roads" = true)
    (kareqroads : PySem.W.keepIn K (.ref fareqroads) = true)
    (aisqbeginqandqend : PySem.W.nsIn K mainGlobals "is_begin_and_end" = some (some (.ref fisqbeginqandqend)))
    (lisqbeginqandqend : K.lookup fisqbeginqandqend = some ⟨ocisqbeginqandqend, odisqbeginqandqend, .func (PySem.W.fnOf "is_begin_and_end" "is_begin_and_end" (defArgs s_is_begin_and_end) (defBody s_is_begin_and_end) (defScope s_is_begin_and_end) .none kVisqbeginqandqend dcisqbeginqandqend pmisqbeginqandqend anisqbeginqandqend cdisqbeginqandqend ctisqbeginqandqend), slisqbeginqandqend⟩)
    (cisqbeginqandqend : PySem.W.codeIn K cdisqbeginqandqend "is_begin_and_end" = true)
    (kisqbeginqandqend : PySem.W.keepIn K (.ref fisqbeginqandqend) = true)
    (aroot : PySem.W.nsIn K mainGlobals "root" = some (some (.ref froot)))
    (lroot : K.lookup froot = some ⟨ocroot, odroot, .func (PySem.W.fnOf "root" "root" (defArgs s_root) (defBody s_root) (defScope s_root) .none kVroot dcroot pmroot anroot cdroot ctroot), slroot⟩)
    (croot : PySem.W.codeIn K cdroot "root" = true)
    (kroot : PySem.W.keepIn K (.ref froot) = true)
    (aqlawqpool : PySem.W.nsIn K mainGlobals "_law_pool" = some (some (.ref fqlawqpool)))
    (lqlawqpool : K.lookup fqlawqpool = some ⟨ocqlawqpool, odqlawqpool, .func (PySem.W.fnOf "_law_pool" "_law_pool" (defArgs s_law_pool) (defBody s_law_pool) (defScope s_law_pool) .none kVqlawqpool dcqlawqpool pmqlawqpool anqlawqpool cdqlawqpool ctqlawqpool), slqlawqpool⟩)
    (cqlawqpool : PySem.W.codeIn K cdqlawqpool "_law_pool" = true)
    (kqlawqpool : PySem.W.keepIn K (.ref fqlawqpool) = true)
    (aqlawqdraw : PySem.W.nsIn K mainGlobals "_law_draw" = some (some (.ref fqlawqdraw)))
    (lqlawqdraw : K.lookup fqlawqdraw = some ⟨ocqlawqdraw, odqlawqdraw, .func (PySem.W.fnOf "_law_draw" "_law_draw" (defArgs s_law_draw) (defBody s_law_draw) (defScope s_law_draw) .none kVqlawqdraw dcqlawqdraw pmqlawqdraw anqlawqdraw cdqlawqdraw ctqlawqdraw), slqlawqdraw⟩)
    (cqlawqdraw : PySem.W.codeIn K cdqlawqdraw "_law_draw" = true)
    (kqlawqdraw : PySem.W.keepIn K (.ref fqlawqdraw) = true)
    (aqlawqsome : PySem.W.nsIn K mainGlobals "_law_some" = some (some (.ref fqlawqsome)))
    (lqlawqsome : K.lookup fqlawqsome = some ⟨ocqlawqsome, odqlawqsome, .func (PySem.W.fnOf "_law_some" "_law_some" (defArgs s_law_some) (defBody s_law_some) (defScope s_law_some) .none kVqlawqsome dcqlawqsome pmqlawqsome anqlawqsome cdqlawqsome ctqlawqsome), slqlawqsome⟩)
    (cqlawqsome : PySem.W.codeIn K cdqlawqsome "_law_some" = true)
    (kqlawqsome : PySem.W.keepIn K (.ref fqlawqsome) = true)
    (aqlawqfreeqroads : PySem.W.nsIn K mainGlobals "_law_free_roads" = some (some (.ref fqlawqfreeqroads)))
    (lqlawqfreeqroads : K.lookup fqlawqfreeqroads = some ⟨ocqlawqfreeqroads, odqlawqfreeqroads, .func (PySem.W.fnOf "_law_free_roads" "_law_free_roads" (defArgs s_law_free_roads) (defBody s_law_free_roads) (defScope s_law_free_roads) .none kVqlawqfreeqroads dcqlawqfreeqroads pmqlawqfreeqroads anqlawqfreeqroads cdqlawqfreeqroads ctqlawqfreeqroads), slqlawqfreeqroads⟩)
    (cqlawqfreeqroads : PySem.W.codeIn K cdqlawqfreeqroads "_law_free_roads" = true)
    (kqlawqfreeqroads : PySem.W.keepIn K (.ref fqlawqfreeqroads) = true)
    (aqlawqtreeqroads : PySem.W.nsIn K mainGlobals "_law_tree_roads" = some (some (.ref fqlawqtreeqroads)))
    (lqlawqtreeqroads : K.lookup fqlawqtreeqroads = some ⟨ocqlawqtreeqroads, odqlawqtreeqroads, .func (PySem.W.fnOf "_law_tree_roads" "_law_tree_roads" (defArgs s_law_tree_roads) (defBody s_law_tree_roads) (defScope s_law_tree_roads) .none kVqlawqtreeqroads dcqlawqtreeqroads pmqlawqtreeqroads anqlawqtreeqroads cdqlawqtreeqroads ctqlawqtreeqroads), slqlawqtreeqroads⟩)
    (cqlawqtreeqroads : PySem.W.codeIn K cdqlawqtreeqroads "_law_tree_roads" = true)
    (kqlawqtreeqroads : PySem.W.keepIn K (.ref fqlawqtreeqroads) = true)
    (aqlawqringqroads : PySem.W.nsIn K mainGlobals "_law_ring_roads" = some (some (.ref fqlawqringqroads)))
    (lqlawqringqroads : K.lookup fqlawqringqroads = some ⟨ocqlawqringqroads, odqlawqringqroads, .func (PySem.W.fnOf "_law_ring_roads" "_law_ring_roads" (defArgs s_law_ring_roads) (defBody s_law_ring_roads) (defScope s_law_ring_roads) .none kVqlawqringqroads dcqlawqringqroads pmqlawqringqroads anqlawqringqroads cdqlawqringqroads ctqlawqringqroads), slqlawqringqroads⟩)
    (cqlawqringqroads : PySem.W.codeIn K cdqlawqringqroads "_law_ring_roads" = true)
    (kqlawqringqroads : PySem.W.keepIn K (.ref fqlawqringqroads) = true)
    (aqlawqweb : PySem.W.nsIn K mainGlobals "_law_web" = some (some (.ref fqlawqweb)))
    (lqlawqweb : K.lookup fqlawqweb = some ⟨ocqlawqweb, odqlawqweb, .func (PySem.W.fnOf "_law_web" "_law_web" (defArgs s_law_web) (defBody s_law_web) (defScope s_law_web) .none kVqlawqweb dcqlawqweb pmqlawqweb anqlawqweb cdqlawqweb ctqlawqweb), slqlawqweb⟩)
    (cqlawqweb : PySem.W.codeIn K cdqlawqweb "_law_web" = true)
    (kqlawqweb : PySem.W.keepIn K (.ref fqlawqweb) = true)
    (aqlawqgreatqweb : PySem.W.nsIn K mainGlobals "_law_great_web" = some (some (.ref fqlawqgreatqweb)))
    (lqlawqgreatqweb : K.lookup fqlawqgreatqweb = some ⟨ocqlawqgreatqweb, odqlawqgreatqweb, .func (PySem.W.fnOf "_law_great_web" "_law_great_web" (defArgs s_law_great_web) (defBody s_law_great_web) (defScope s_law_great_web) .none kVqlawqgreatqweb dcqlawqgreatqweb pmqlawqgreatqweb anqlawqgreatqweb cdqlawqgreatqweb ctqlawqgreatqweb), slqlawqgreatqweb⟩)
    (cqlawqgreatqweb : PySem.W.codeIn K cdqlawqgreatqweb "_law_great_web" = true)
    (kqlawqgreatqweb : PySem.W.keepIn K (.ref fqlawqgreatqweb) = true)
    (aqlawqmade : PySem.W.nsIn K mainGlobals "_law_made" = some (some (.ref fqlawqmade)))
    (lqlawqmade : K.lookup fqlawqmade = some ⟨ocqlawqmade, odqlawqmade, .func (PySem.W.fnOf "_law_made" "_law_made" (defArgs s_law_made) (defBody s_law_made) (defScope s_law_made) .none kVqlawqmade dcqlawqmade pmqlawqmade anqlawqmade cdqlawqmade ctqlawqmade), slqlawqmade⟩)
    (cqlawqmade : PySem.W.codeIn K cdqlawqmade "_law_made" = true)
    (kqlawqmade : PySem.W.keepIn K (.ref fqlawqmade) = true)
    (aqlawqmixed : PySem.W.nsIn K mainGlobals "_law_mixed" = some (some (.ref fqlawqmixed)))
    (lqlawqmixed : K.lookup fqlawqmixed = some ⟨ocqlawqmixed, odqlawqmixed, .func (PySem.W.fnOf "_law_mixed" "_law_mixed" (defArgs s_law_mixed) (defBody s_law_mixed) (defScope s_law_mixed) .none kVqlawqmixed dcqlawqmixed pmqlawqmixed anqlawqmixed cdqlawqmixed ctqlawqmixed), slqlawqmixed⟩)
    (cqlawqmixed : PySem.W.codeIn K cdqlawqmixed "_law_mixed" = true)
    (kqlawqmixed : PySem.W.keepIn K (.ref fqlawqmixed) = true)
    (aqlawqrooted : PySem.W.nsIn K mainGlobals "_law_rooted" = some (some (.ref fqlawqrooted)))
    (lqlawqrooted : K.lookup fqlawqrooted = some ⟨ocqlawqrooted, odqlawqrooted, .func (PySem.W.fnOf "_law_rooted" "_law_rooted" (defArgs s_law_rooted) (defBody s_law_rooted) (defScope s_law_rooted) .none kVqlawqrooted dcqlawqrooted pmqlawqrooted anqlawqrooted cdqlawqrooted ctqlawqrooted), slqlawqrooted⟩)
    (cqlawqrooted : PySem.W.codeIn K cdqlawqrooted "_law_rooted" = true)
    (kqlawqrooted : PySem.W.keepIn K (.ref fqlawqrooted) = true)
    (aqlawqroot : PySem.W.nsIn K mainGlobals "_law_root" = some (some (.ref fqlawqroot)))
    (lqlawqroot : K.lookup fqlawqroot = some ⟨ocqlawqroot, odqlawqroot, .func (PySem.W.fnOf "_law_root" "_law_root" (defArgs s_law_root) (defBody s_law_root) (defScope s_law_root) .none kVqlawqroot dcqlawqroot pmqlawqroot anqlawqroot cdqlawqroot ctqlawqroot), slqlawqroot⟩)
    (cqlawqroot : PySem.W.codeIn K cdqlawqroot "_law_root" = true)
    (kqlawqroot : PySem.W.keepIn K (.ref fqlawqroot) = true)
    (aqlawqbent : PySem.W.nsIn K mainGlobals "_law_bent" = some (some (.ref fqlawqbent)))
    (lqlawqbent : K.lookup fqlawqbent = some ⟨ocqlawqbent, odqlawqbent, .func (PySem.W.fnOf "_law_bent" "_law_bent" (defArgs s_law_bent) (defBody s_law_bent) (defScope s_law_bent) .none kVqlawqbent dcqlawqbent pmqlawqbent anqlawqbent cdqlawqbent ctqlawqbent), slqlawqbent⟩)
    (cqlawqbent : PySem.W.codeIn K cdqlawqbent "_law_bent" = true)
    (kqlawqbent : PySem.W.keepIn K (.ref fqlawqbent) = true)
    (alaw : PySem.W.nsIn K mainGlobals "law" = some (some (.ref flaw)))
    (llaw : K.lookup flaw = some ⟨oclaw, odlaw, .func (PySem.W.fnOf "law" "law" (defArgs s_law) (defBody s_law) (defScope s_law) .none kVlaw dclaw pmlaw anlaw cdlaw ctlaw), sllaw⟩)
    (claw : PySem.W.codeIn K cdlaw "law" = true)
    (klaw : PySem.W.keepIn K (.ref flaw) = true)
    (aMOSTqHOUSES : PySem.W.nsIn K mainGlobals "MOST_HOUSES" = some (some (.int 12 tMOSTqHOUSES)))
    (aMOSTqROADS : PySem.W.nsIn K mainGlobals "MOST_ROADS" = some (some (.int 24 tMOSTqROADS)))
    (aMOSTqROOMS : PySem.W.nsIn K mainGlobals "MOST_ROOMS" = some (some (.int 3 tMOSTqROOMS)))
    (aLONGESTqTIME : PySem.W.nsIn K mainGlobals "LONGEST_TIME" = some (some (.int 3 tLONGESTqTIME)))
    (aWWeb : PySem.W.nsIn K mainGlobals "Web" = some (some (.ref CWWeb)))
    (iWWeb : PySem.W.findIn K (.ref CWWeb) "__init__" = some (some (.ref fWWeb)))
    (yWWeb : PySem.W.isFn K (.ref fWWeb) = true)
    (lWWeb : K.lookup fWWeb = some ⟨ocWWeb, odWWeb, .func (PySem.W.fnOf "__init__" "Web.__init__" (defArgs s_Web___init) (defBody s_Web___init) (defScope s_Web___init) .none kVWWeb dcWWeb pmWWeb anWWeb cdWWeb ctWWeb), slWWeb⟩)
    (cWWeb : PySem.W.codeIn K cdWWeb "Web.__init__" = true)
    (kWWeb : PySem.W.keepIn K (.ref fWWeb) = true)
    (pgWWeb : PySem.W.plainGet K CWWeb Str.empty = true)
    (hdWWeb : PySem.W.hasDictIn K CWWeb = true)
    (poWWeb : PySem.W.plainOver K CWWeb = true)
    (saWWeb : PySem.W.findIn K (.ref CWWeb) "__setattr__" = some (some (.builtin "object.__setattr__")))
    (mkWWeb : PySem.W.makesIn K CWWeb = true)
    (kcWWeb : PySem.W.keepIn K (.ref CWWeb) = true)
    (naWWebhouses : PySem.W.findIn K (.ref CWWeb) "houses" = some none)
    (naWWebroads : PySem.W.findIn K (.ref CWWeb) "roads" = some none)
    (naWWebrooms : PySem.W.findIn K (.ref CWWeb) "rooms" = some none)
    (naWWebtimes : PySem.W.findIn K (.ref CWWeb) "times" = some none)
    (aXBadWeb : PySem.W.nsIn K mainGlobals "BadWeb" = some (some (.ref CXBadWeb)))
    (xXBadWeb : K.lookup CXBadWeb = some (excClassObj nmXBadWeb qnXBadWeb CXBadWeb NXBadWeb bsXBadWeb bmXBadWeb true snXBadWeb subXBadWeb abXBadWeb colXBadWeb ddXBadWeb m0XBadWeb m1XBadWeb m2XBadWeb m3XBadWeb m5XBadWeb "ValueError.__new__"))
    (bmXBadWebo : PySem.HandSPX.refsVE bmXBadWeb = true)
    (saXBadWeb : PySem.W.findIn K (.ref CXBadWeb) "__setattr__" = some (some (.builtin "object.__setattr__")))
    (gaXBadWeb : PySem.W.findIn K (.ref CXBadWeb) "__getattribute__" = some (some (.builtin "BaseException.__getattribute__")))
    (ggXBadWeb : PySem.W.findIn K (.ref CXBadWeb) "__getattr__" = some none)
    (iXBadWeb : PySem.W.findIn K (.ref CXBadWeb) "__init__" = some (some (.ref fXBadWeb)))
    (yXBadWeb : PySem.W.typeIn K (.ref fXBadWeb) = some (.type "function"))
    (lXBadWeb : K.lookup fXBadWeb = some ⟨ocXBadWeb, odXBadWeb, .func (PySem.W.fnOf "__init__" "BadWeb.__init__" (defArgs s_BadWeb___init) (defBody s_BadWeb___init) (defScope s_BadWeb___init) .none kVXBadWeb dcXBadWeb pmXBadWeb anXBadWeb cdXBadWeb ctXBadWeb), slXBadWeb⟩)
    (cXBadWeb : PySem.W.codeIn K cdXBadWeb "BadWeb.__init__" = true)
    (kXBadWeb : PySem.W.keepIn K (.ref fXBadWeb) = true)
    (kcXBadWeb : PySem.W.keepIn K (.ref CXBadWeb) = true)
    (exXBadWeb : PySem.W.subIn K (.ref CXBadWeb) (.type "BaseException") = some true)
    (tyXBadWeb : PySem.W.typeIn K (.ref CXBadWeb) = some (.type "type"))
    (hdXBadWeb : PySem.W.hasDictIn K CXBadWeb = true)
    (icXBadWeb : PySem.W.isClsIn K CXBadWeb = true)
    (suXBadWeb : PySem.W.subIn K (.ref CXBadWeb) (.ref CXBadWeb) = some true)
    (naXBadWebpart : PySem.W.findIn K (.ref CXBadWeb) "part" = some none)
    (anqisinstance : PySem.W.nsIn K mainGlobals "isinstance" = some none)
    (anqint : PySem.W.nsIn K mainGlobals "int" = some none)
    (anqbool : PySem.W.nsIn K mainGlobals "bool" = some none)
    (anqtuple : PySem.W.nsIn K mainGlobals "tuple" = some none)
    (anqlist : PySem.W.nsIn K mainGlobals "list" = some none)
    (anqlen : PySem.W.nsIn K mainGlobals "len" = some none)
    (anqall : PySem.W.nsIn K mainGlobals "all" = some none)
    (anqabs : PySem.W.nsIn K mainGlobals "abs" = some none)
    (anqrange : PySem.W.nsIn K mainGlobals "range" = some none) :
    ∃ T : Tx K mg, ∀ (s : Shared) (v : Value), BindsTo s T.law.fd ⟨[v], []⟩ [("_law_script", v)] := by
  refine ⟨{
    is_integer := ⟨fisqinteger, _, fun_mk (st := s_is_integer) lisqinteger cisqinteger kisqinteger, PySem.W.mg_of X G aisqinteger, (fun_mk (st := s_is_integer) lisqinteger cisqinteger kisqinteger).binds (fun _ _ _ _ _ _ us hl => match us, hl with | [_], _ => rfl)⟩
    is_between := ⟨fisqbetween, _, fun_mk (st := s_is_between) lisqbetween cisqbetween kisqbetween, PySem.W.mg_of X G aisqbetween, (fun_mk (st := s_is_between) lisqbetween cisqbetween kisqbetween).binds (fun _ _ _ _ _ _ us hl => match us, hl with | [_, _, _], _ => rfl)⟩
    is_tuple := ⟨fisqtuple, _, fun_mk (st := s_is_tuple) lisqtuple cisqtuple kisqtuple, PySem.W.mg_of X G aisqtuple, (fun_mk (st := s_is_tuple) lisqtuple cisqtuple kisqtuple).binds (fun _ _ _ _ _ _ us hl => match us, hl with | [_, _], _ => rfl)⟩
    are_integers := ⟨fareqintegers, _, fun_mk (st := s_are_integers) lareqintegers careqintegers kareqintegers, PySem.W.mg_of X G aareqintegers, (fun_mk (st := s_are_integers) lareqintegers careqintegers kareqintegers).binds (fun _ _ _ _ _ _ us hl => match us, hl with | [_, _], _ => rfl)⟩
    are_between := ⟨fareqbetween, _, fun_mk (st := s_are_between) lareqbetween careqbetween kareqbetween, PySem.W.mg_of X G aareqbetween, (fun_mk (st := s_are_between) lareqbetween careqbetween kareqbetween).binds (fun _ _ _ _ _ _ us hl => match us, hl with | [_, _, _, _], _ => rfl)⟩
    are_roads := ⟨fareqroads, _, fun_mk (st := s_are_roads) lareqroads careqroads kareqroads, PySem.W.mg_of X G aareqroads, (fun_mk (st := s_are_roads) lareqroads careqroads kareqroads).binds (fun _ _ _ _ _ _ us hl => match us, hl with | [_, _], _ => rfl)⟩
    is_begin_and_end := ⟨fisqbeginqandqend, _, fun_mk (st := s_is_begin_and_end) lisqbeginqandqend cisqbeginqandqend kisqbeginqandqend, PySem.W.mg_of X G aisqbeginqandqend, (fun_mk (st := s_is_begin_and_end) lisqbeginqandqend cisqbeginqandqend kisqbeginqandqend).binds (fun _ _ _ _ _ _ us hl => match us, hl with | [_, _], _ => rfl)⟩
    root := ⟨froot, _, fun_mk (st := s_root) lroot croot kroot, PySem.W.mg_of X G aroot, (fun_mk (st := s_root) lroot croot kroot).binds (fun _ _ _ _ _ _ us hl => match us, hl with | [_], _ => rfl)⟩
    _law_pool := ⟨fqlawqpool, _, fun_mk (st := s_law_pool) lqlawqpool cqlawqpool kqlawqpool, PySem.W.mg_of X G aqlawqpool, (fun_mk (st := s_law_pool) lqlawqpool cqlawqpool kqlawqpool).binds (fun _ _ _ _ _ _ us hl => match us, hl with | [_], _ => rfl)⟩
    _law_draw := ⟨fqlawqdraw, _, fun_mk (st := s_law_draw) lqlawqdraw cqlawqdraw kqlawqdraw, PySem.W.mg_of X G aqlawqdraw, (fun_mk (st := s_law_draw) lqlawqdraw cqlawqdraw kqlawqdraw).binds (fun _ _ _ _ _ _ us hl => match us, hl with | [_, _], _ => rfl)⟩
    _law_some := ⟨fqlawqsome, _, fun_mk (st := s_law_some) lqlawqsome cqlawqsome kqlawqsome, PySem.W.mg_of X G aqlawqsome, (fun_mk (st := s_law_some) lqlawqsome cqlawqsome kqlawqsome).binds (fun _ _ _ _ _ _ us hl => match us, hl with | [_, _], _ => rfl)⟩
    _law_free_roads := ⟨fqlawqfreeqroads, _, fun_mk (st := s_law_free_roads) lqlawqfreeqroads cqlawqfreeqroads kqlawqfreeqroads, PySem.W.mg_of X G aqlawqfreeqroads, (fun_mk (st := s_law_free_roads) lqlawqfreeqroads cqlawqfreeqroads kqlawqfreeqroads).binds (fun _ _ _ _ _ _ us hl => match us, hl with | [_, _, _], _ => rfl)⟩
    _law_tree_roads := ⟨fqlawqtreeqroads, _, fun_mk (st := s_law_tree_roads) lqlawqtreeqroads cqlawqtreeqroads kqlawqtreeqroads, PySem.W.mg_of X G aqlawqtreeqroads, (fun_mk (st := s_law_tree_roads) lqlawqtreeqroads cqlawqtreeqroads kqlawqtreeqroads).binds (fun _ _ _ _ _ _ us hl => match us, hl with | [_, _], _ => rfl)⟩
    _law_ring_roads := ⟨fqlawqringqroads, _, fun_mk (st := s_law_ring_roads) lqlawqringqroads cqlawqringqroads kqlawqringqroads, PySem.W.mg_of X G aqlawqringqroads, (fun_mk (st := s_law_ring_roads) lqlawqringqroads cqlawqringqroads kqlawqringqroads).binds (fun _ _ _ _ _ _ us hl => match us, hl with | [_], _ => rfl)⟩
    _law_web := ⟨fqlawqweb, _, fun_mk (st := s_law_web) lqlawqweb cqlawqweb kqlawqweb, PySem.W.mg_of X G aqlawqweb, (fun_mk (st := s_law_web) lqlawqweb cqlawqweb kqlawqweb).binds (fun _ _ _ _ _ _ us hl => match us, hl with | [_, _], _ => rfl)⟩
    _law_great_web := ⟨fqlawqgreatqweb, _, fun_mk (st := s_law_great_web) lqlawqgreatqweb cqlawqgreatqweb kqlawqgreatqweb, PySem.W.mg_of X G aqlawqgreatqweb, (fun_mk (st := s_law_great_web) lqlawqgreatqweb cqlawqgreatqweb kqlawqgreatqweb).binds (fun _ _ _ _ _ _ us hl => match us, hl with | [_], _ => rfl)⟩
    _law_made := ⟨fqlawqmade, _, fun_mk (st := s_law_made) lqlawqmade cqlawqmade kqlawqmade, PySem.W.mg_of X G aqlawqmade, (fun_mk (st := s_law_made) lqlawqmade cqlawqmade kqlawqmade).binds (fun _ _ _ _ _ _ us hl => match us, hl with | [_], _ => rfl)⟩
    _law_mixed := ⟨fqlawqmixed, _, fun_mk (st := s_law_mixed) lqlawqmixed cqlawqmixed kqlawqmixed, PySem.W.mg_of X G aqlawqmixed, (fun_mk (st := s_law_mixed) lqlawqmixed cqlawqmixed kqlawqmixed).binds (fun _ _ _ _ _ _ us hl => match us, hl with | [_, _], _ => rfl)⟩
    _law_rooted := ⟨fqlawqrooted, _, fun_mk (st := s_law_rooted) lqlawqrooted cqlawqrooted kqlawqrooted, PySem.W.mg_of X G aqlawqrooted, (fun_mk (st := s_law_rooted) lqlawqrooted cqlawqrooted kqlawqrooted).binds (fun _ _ _ _ _ _ us hl => match us, hl with | [_], _ => rfl)⟩
    _law_root := ⟨fqlawqroot, _, fun_mk (st := s_law_root) lqlawqroot cqlawqroot kqlawqroot, PySem.W.mg_of X G aqlawqroot, (fun_mk (st := s_law_root) lqlawqroot cqlawqroot kqlawqroot).binds (fun _ _ _ _ _ _ us hl => match us, hl with | [_], _ => rfl)⟩
    _law_bent := ⟨fqlawqbent, _, fun_mk (st := s_law_bent) lqlawqbent cqlawqbent kqlawqbent, PySem.W.mg_of X G aqlawqbent, (fun_mk (st := s_law_bent) lqlawqbent cqlawqbent kqlawqbent).binds (fun _ _ _ _ _ _ us hl => match us, hl with | [_, _], _ => rfl)⟩
    law := ⟨flaw, _, fun_mk (st := s_law) llaw claw klaw, PySem.W.mg_of X G alaw, (fun_mk (st := s_law) llaw claw klaw).binds (fun _ _ _ _ _ _ us hl => match us, hl with | [_], _ => rfl)⟩
    c_MOST_HOUSES := ⟨_, PySem.W.mg_of X G aMOSTqHOUSES⟩
    c_MOST_ROADS := ⟨_, PySem.W.mg_of X G aMOSTqROADS⟩
    c_MOST_ROOMS := ⟨_, PySem.W.mg_of X G aMOSTqROOMS⟩
    c_LONGEST_TIME := ⟨_, PySem.W.mg_of X G aLONGESTqTIME⟩
    Web := ⟨CWWeb, fWWeb, _, fun_mk (st := s_Web___init) lWWeb cWWeb kWWeb, PySem.W.mg_of X G aWWeb, (fun_mk (st := s_Web___init) lWWeb cWWeb kWWeb).binds (fun _ _ _ _ _ _ us hl => match us, hl with | [_, _, _, _, _], _ => rfl), ⟨mkWWeb, iWWeb, yWWeb, kcWWeb⟩, ⟨pgWWeb, hdWWeb, poWWeb, saWWeb⟩, by intro x hx; simp only [List.mem_cons, List.not_mem_nil, or_false] at hx; rcases hx with rfl | rfl | rfl | rfl <;> assumption⟩
    x_BadWeb := ⟨CXBadWeb, fXBadWeb, _, fun_mk (st := s_BadWeb___init) lXBadWeb cXBadWeb kXBadWeb, PySem.W.mg_of X G aXBadWeb, (fun_mk (st := s_BadWeb___init) lXBadWeb cXBadWeb kXBadWeb).binds (fun _ _ _ _ _ _ us hl => match us, hl with | [_, _], _ => rfl), ⟨⟨_, _, _, _, _, _, _, _, _, _, _, _, _, _, _, xXBadWeb, bmXBadWebo⟩, saXBadWeb, exXBadWeb, tyXBadWeb, kcXBadWeb⟩, iXBadWeb, yXBadWeb, ⟨gaXBadWeb, ggXBadWeb, exXBadWeb, hdXBadWeb⟩, exm_self exXBadWeb icXBadWeb tyXBadWeb suXBadWeb, (fun x hx => by simp only [List.mem_cons, List.not_mem_nil, or_false] at hx; rcases hx with rfl <;> assumption)⟩
    n_isinstance := PySem.W.mg_none_of X G anqisinstance
    n_int := PySem.W.mg_none_of X G anqint
    n_bool := PySem.W.mg_none_of X G anqbool
    n_tuple := PySem.W.mg_none_of X G anqtuple
    n_list := PySem.W.mg_none_of X G anqlist
    n_len := PySem.W.mg_none_of X G anqlen
    n_all := PySem.W.mg_none_of X G anqall
    n_abs := PySem.W.mg_none_of X G anqabs
    n_range := PySem.W.mg_none_of X G anqrange
  }, fun s v => .of_eq rfl⟩

theorem fin {l : PySem.W.OpenLaw} {w : World} {K : PySem.W.Frag} {mg : Str → Option Value} {fa : Addr} (hfa : mg "law" = some (.ref fa)) (h : ∃ T : Tx K mg, ∀ (s : Shared) (v : Value), BindsTo s T.law.fd ⟨[v], []⟩ [("_law_script", v)]) :
    ∃ fd : FuncData, (∀ (s : Shared) (v : Value), BindsTo s fd ⟨[v], []⟩ [("_law_script", v)]) ∧ ∀ base : Heap, K.In base → base.Ns mainGlobals mg → FnOk l.prog w K mg base CX0 10 fa fd ["_law_script"] (spLaw K) := by
  obtain ⟨T, b⟩ := h
  have e := hfa.symm.trans T.law.g
  cases e
  exact ⟨T.law.fd, b, fun base _ _ => ok_law T⟩
theorem walk {l : PySem.W.OpenLaw} {q : Program} {loose : List Str} {XP : (Str → Option Value) → Heap → Prop} {YP : World → Heap → Prop} {d : DefRec} {K : Params → PySem.W.Frag} (hn : l.most = some 63) (hdf : d.params.defaults = [])
    (hY : ∀ (w : World) (h : Heap), YP w h → (K w.params).In h)
    (F : ∀ (w : World) (mg : Str → Option Value) (fa : Addr) (h : Heap), (K w.params).In h → h.Ns mainGlobals mg → mg d.name = some (.ref fa) →
      ∃ fd : FuncData, (∀ (s : Shared) (u : Value), BindsTo s fd ⟨[u], []⟩ [("_law_script", u)]) ∧ ∀ base : Heap, (K w.params).In base → base.Ns mainGlobals mg → FnOk l.prog w (K w.params) mg base CX0 10 fa fd ["_law_script"] (spLaw (K w.params))) :
    PySem.W.WalkO q loose XP YP l.row.toRowW d [] (fun f vs => PySem.call f vs) :=
  L2.walk_of (n := 63) (k := 10) (x := "_law_script") (CX := fun _ => CX0) (sp := fun w => spLaw (K w.params)) hn (by decide) hdf ⟨rfl, by decide, by decide⟩ hY F (fun _ _ a ns hl _ hS => ⟨a, ns, rfl, hS, hl, fun _ => rfl⟩) fun _ _ _ _ _ z => z
end Hc

set_option Elab.async false
set_option linter.all false
open PySem PySem.W PyProof.Rows
set_option maxRecDepth 100000 in
set_option maxHeartbeats 0 in
theorem PySem.Challenge.cw_hourcards_k42_whole_roots_of_webs_holds : PySem.Challenge.rw_hourcards_k42_whole_roots_of_webs.Holds := by
  w_on; o_law; k_head; (case hw => w_witness2)
  k_fill
  refine Hc.walk (l := PySem.Challenge.rw_hourcards_k42_whole_roots_of_webs) rfl rfl (fun w h Y => PySem.W.kIn_of Y) ?F
  case F =>
    intro w mg fa h KX G hmg
    refine Hc.fin hmg ?T
    refine' Hc.tx_mk KX G ?aisqinteger ?lisqinteger ?cisqinteger ?kisqinteger ?aisqbetween ?lisqbetween ?cisqbetween ?kisqbetween ?aisqtuple ?lisqtuple ?cisqtuple ?kisqtuple ?aareqintegers ?lareqintegers ?careqintegers ?kareqintegers ?aareqbetween ?lareqbetween ?careqbetween ?kareqbetween ?aareqroads ?lareqroads ?careqroads ?kareqroads ?aisqbeginqandqend ?lisqbeginqandqend ?cisqbeginqandqend ?kisqbeginqandqend ?aroot ?lroot ?croot ?kroot ?aqlawqpool ?lqlawqpool ?cqlawqpool ?kqlawqpool ?aqlawqdraw ?lqlawqdraw ?cqlawqdraw ?kqlawqdraw ?aqlawqsome ?lqlawqsome ?cqlawqsome ?kqlawqsome ?aqlawqfreeqroads ?lqlawqfreeqroads ?cqlawqfreeqroads ?kqlawqfreeqroads ?aqlawqtreeqroads ?lqlawqtreeqroads ?cqlawqtreeqroads ?kqlawqtreeqroads ?aqlawqringqroads ?lqlawqringqroads ?cqlawqringqroads ?kqlawqringqroads ?aqlawqweb ?lqlawqweb ?cqlawqweb ?kqlawqweb ?aqlawqgreatqweb ?lqlawqgreatqweb ?cqlawqgreatqweb ?kqlawqgreatqweb ?aqlawqmade ?lqlawqmade ?cqlawqmade ?kqlawqmade ?aqlawqmixed ?lqlawqmixed ?cqlawqmixed ?kqlawqmixed ?aqlawqrooted ?lqlawqrooted ?cqlawqrooted ?kqlawqrooted ?aqlawqroot ?lqlawqroot ?cqlawqroot ?kqlawqroot ?aqlawqbent ?lqlawqbent ?cqlawqbent ?kqlawqbent ?alaw ?llaw ?claw ?klaw ?aMOSTqHOUSES ?aMOSTqROADS ?aMOSTqROOMS ?aLONGESTqTIME ?aWWeb ?iWWeb ?yWWeb ?lWWeb ?cWWeb ?kWWeb ?pgWWeb ?hdWWeb ?poWWeb ?saWWeb ?mkWWeb ?kcWWeb ?naWWebhouses ?naWWebroads ?naWWebrooms ?naWWebtimes ?aXBadWeb ?xXBadWeb ?bmXBadWebo ?saXBadWeb ?gaXBadWeb ?ggXBadWeb ?iXBadWeb ?yXBadWeb ?lXBadWeb ?cXBadWeb ?kXBadWeb ?kcXBadWeb ?exXBadWeb ?tyXBadWeb ?hdXBadWeb ?icXBadWeb ?suXBadWeb ?naXBadWebpart ?anqisinstance ?anqint ?anqbool ?anqtuple ?anqlist ?anqlen ?anqall ?anqabs ?anqrange
    (case aisqinteger => k_is)
    (case lisqinteger => k_is)
    (case cisqinteger => k_is)
    (case kisqinteger => k_is)
    (case aisqbetween => k_is)
    (case lisqbetween => k_is)
    (case cisqbetween => k_is)
    (case kisqbetween => k_is)
    (case aisqtuple => k_is)
    (case lisqtuple => k_is)
    (case cisqtuple => k_is)
    (case kisqtuple => k_is)
    (case aareqintegers => k_is)
    (case lareqintegers => k_is)
    (case careqintegers => k_is)
    (case kareqintegers => k_is)
    (case aareqbetween => k_is)
    (case lareqbetween => k_is)
    (case careqbetween => k_is)
    (case kareqbetween => k_is)
    (case aareqroads => k_is)
    (case lareqroads => k_is)
    (case careqroads => k_is)
    (case kareqroads => k_is)
    (case aisqbeginqandqend => k_is)
    (case lisqbeginqandqend => k_is)
    (case cisqbeginqandqend => k_is)
    (case kisqbeginqandqend => k_is)
    (case aroot => k_is)
    (case lroot => k_is)
    (case croot => k_is)
    (case kroot => k_is)
    (case aqlawqpool => k_is)
    (case lqlawqpool => k_is)
    (case cqlawqpool => k_is)
    (case kqlawqpool => k_is)
    (case aqlawqdraw => k_is)
    (case lqlawqdraw => k_is)
    (case cqlawqdraw => k_is)
    (case kqlawqdraw => k_is)
    (case aqlawqsome => k_is)
    (case lqlawqsome => k_is)
    (case cqlawqsome => k_is)
    (case kqlawqsome => k_is)
    (case aqlawqfreeqroads => k_is)
    (case lqlawqfreeqroads => k_is)
    (case cqlawqfreeqroads => k_is)
    (case kqlawqfreeqroads => k_is)
    (case aqlawqtreeqroads => k_is)
    (case lqlawqtreeqroads => k_is)
    (case cqlawqtreeqroads => k_is)
    (case kqlawqtreeqroads => k_is)
    (case aqlawqringqroads => k_is)
    (case lqlawqringqroads => k_is)
    (case cqlawqringqroads => k_is)
    (case kqlawqringqroads => k_is)
    (case aqlawqweb => k_is)
    (case lqlawqweb => k_is)
    (case cqlawqweb => k_is)
    (case kqlawqweb => k_is)
    (case aqlawqgreatqweb => k_is)
    (case lqlawqgreatqweb => k_is)
    (case cqlawqgreatqweb => k_is)
    (case kqlawqgreatqweb => k_is)
    (case aqlawqmade => k_is)
    (case lqlawqmade => k_is)
    (case cqlawqmade => k_is)
    (case kqlawqmade => k_is)
    (case aqlawqmixed => k_is)
    (case lqlawqmixed => k_is)
    (case cqlawqmixed => k_is)
    (case kqlawqmixed => k_is)
    (case aqlawqrooted => k_is)
    (case lqlawqrooted => k_is)
    (case cqlawqrooted => k_is)
    (case kqlawqrooted => k_is)
    (case aqlawqroot => k_is)
    (case lqlawqroot => k_is)
    (case cqlawqroot => k_is)
    (case kqlawqroot => k_is)
    (case aqlawqbent => k_is)
    (case lqlawqbent => k_is)
    (case cqlawqbent => k_is)
    (case kqlawqbent => k_is)
    (case alaw => k_is)
    (case llaw => k_is)
    (case claw => k_is)
    (case klaw => k_is)
    (case aMOSTqHOUSES => k_is)
    (case aMOSTqROADS => k_is)
    (case aMOSTqROOMS => k_is)
    (case aLONGESTqTIME => k_is)
    (case aWWeb => k_is)
    (case iWWeb => k_is)
    (case yWWeb => k_is)
    (case lWWeb => k_is)
    (case cWWeb => k_is)
    (case kWWeb => k_is)
    (case pgWWeb => k_is)
    (case hdWWeb => k_is)
    (case poWWeb => k_is)
    (case saWWeb => k_is)
    (case mkWWeb => k_is)
    (case kcWWeb => k_is)
    (case naWWebhouses => k_is)
    (case naWWebroads => k_is)
    (case naWWebrooms => k_is)
    (case naWWebtimes => k_is)
    (case aXBadWeb => k_is)
    (case xXBadWeb => k_is)
    (case bmXBadWebo => decide +kernel)
    (case saXBadWeb => k_is)
    (case gaXBadWeb => k_is)
    (case ggXBadWeb => k_is)
    (case iXBadWeb => k_is)
    (case yXBadWeb => k_is)
    (case lXBadWeb => k_is)
    (case cXBadWeb => k_is)
    (case kXBadWeb => k_is)
    (case kcXBadWeb => k_is)
    (case exXBadWeb => k_is)
    (case tyXBadWeb => k_is)
    (case hdXBadWeb => k_is)
    (case icXBadWeb => k_is)
    (case suXBadWeb => first | rfl | k_is)
    (case naXBadWebpart => k_is)
    (case anqisinstance => k_is)
    (case anqint => k_is)
    (case anqbool => k_is)
    (case anqtuple => k_is)
    (case anqlist => k_is)
    (case anqlen => k_is)
    (case anqall => k_is)
    (case anqabs => k_is)
    (case anqrange => k_is)


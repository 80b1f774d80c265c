import PyProof.Rows.All
import Wide.All
import OpenK.AllK
import Wide.FinOn
import HandS.ForMost
import HandS.ForExc
import HandS.ExcInit
import HandS.ExcField
import HandS.IsInst
import HandS.ClsMeth
import HandS.Walk
import HandS.Conv
import HandS.Style
import HandS.TupAny
import HandS.Property
import HandS.MakeKwOnly
import HandS.Deep
import HandS.Codes
import PySem.Challenge.RW_strongbit_k03_bodies_taken_refused
set_option Elab.async false
set_option linter.all false
set_option maxRecDepth 100000
set_option maxHeartbeats 2000000
/-! Sb: what the proofs of the ends' laws share: a rule for powers, the bag of draws. -/
namespace Sb
open PySem L2
variable {X : Cx}
theorem op_powB : OpR X (binaryOp .Pow) (rI (fun i j => 0 ≤ j ∧ (Builtin.Int.intBits i : Int) * j ≤ 2 ^ 27) fun i j => .int (i ^ j.toNat)) :=
  opI fun _ _ _ _ _ _ _ c q => PyProof.Rows.pow_int c.1 c.2 q
theorem pow_fits {i : Int} {k : Nat} {j : Int} (h : i.natAbs < 2 ^ k) (h0 : 0 ≤ j) (hj : (k : Int) * j ≤ 2 ^ 27) : 0 ≤ j ∧ (Builtin.Int.intBits i : Int) * j ≤ 2 ^ 27 := by
  have hb : Builtin.Int.intBits i ≤ k := PyProof.Rows.intBits_le h
  refine ⟨h0, Int.le_trans (Int.mul_le_mul_of_nonneg_right (by omega) h0) hj⟩
/-- a def of the text: what it keeps, its name, how it binds -/
structure Fx (P : Program) (w : World) (K : PySem.W.Frag) (mg : Str → Option Value) (base : Heap) (CX : CXT) (k : Nat) (x : Str) (f : Addr) (fd : FuncData) (ps : List Str) (sp : Sp) : Prop where
  ok : FnOk P w K mg base CX k f fd ps sp
  mg : mg x = some (.ref f)
  kp : PySem.W.keepIn K (.ref f) = true
  bd : Binds K fd ps []
/-- an own exception class with its __init__ -/
structure Ox (P : Program) (w : World) (K : PySem.W.Frag) (mg : Str → Option Value) (base : Heap) (k : Nat) (x : Str) (C f : Addr) (fd : FuncData) (ps : List Str) (sp : Sp) : Prop where
  c : OexC K C
  iC : PySem.W.findIn K (.ref C) "__init__" = some (some (.ref f))
  tI : PySem.W.typeIn K (.ref f) = some (.type "function")
  ok : FnOk P w K mg base CX0 k f fd ps sp
  bd : Binds K fd ps []
  mg : mg x = some (.ref C)
/-- BadEnd(v1, v2) is raised: its own dict is new -/
def BadAt (C : Addr) (H : Hp) (v1 v2 : V) (E : XK) : Prop := ∀ (H' : Hp) (d : Addr), Same H H' → H d = none → H' d = some (.xd [("row", v2), ("part", v1)]) → E (.ref C) (some d) H'
theorem BadAt.same {C : Addr} {H H1 : Hp} {v1 v2 : V} {E : XK} (s : Same H H1) (h : BadAt C H v1 v2 E) : BadAt C H1 v1 v2 E := fun H' d s' n e => h H' d (s.trans s') (s.free n) e
/-- BadEnd.__init__ -/
def spBadInit (C : Addr) : Sp := fun vs H Q _ => ∃ (a : Addr) (v1 v2 : V), vs = [.ref a, v1, v2] ∧ H a = some (exo a C none) ∧
  ∀ (H' : Hp) (d : Addr), H' a = some (exo a C (some d)) → H d = none → d ≠ a → H' d = some (exd d [("row", v2), ("part", v1)]) → (∀ b o, H b = some o → b ≠ a → H' b = some o) → Q .non H'
/-- all that stood stands, but at p -/
def But (p : Addr) (H H' : Hp) : Prop := ∀ b o, H b = some o → b ≠ p → H' b = some o
theorem But.refl {p : Addr} {H : Hp} : But p H H := fun _ _ h _ => h
theorem But.trans {p : Addr} {H H1 H2 : Hp} (a : But p H H1) (b : But p H1 H2) : But p H H2 := fun c o h n => b c o (a c o h n) n
theorem But.same {p : Addr} {H H1 : Hp} (a : Same H H1) : But p H H1 := fun c o h _ => a c o h
theorem But.upd {p : Addr} {H : Hp} {o : HO} : But p H (upd H p o) := fun c u h n => by rw [upd_ne n]; exact h
theorem Same.upd {p : Addr} {H : Hp} {o : HO} (n : H p = none) : Same H (upd H p o) := fun c u h => by
  rw [upd_ne (ne_of_none h n)]
  exact h
theorem sqT_same {K : PySem.W.Frag} {H H' : Hp} {a : Addr} {xs : List V} (e : Same H H') (h : SqT K H a xs) : SqT K H' a xs := by
  rcases h with (h | ⟨o, h⟩) | h
  · exact .inl (.inl (e _ _ h))
  · exact .inl (.inr ⟨o, e _ _ h⟩)
  · exact .inr h
/-- the bag at p: three numbers; n bounds how often it was asked -/
def Bag (H : Hp) (p : Addr) (n : Nat) : Prop := ∃ g b c : Int, H p = some (.lst [.int g, .int b, .int c]) ∧ 0 ≤ g ∧ 0 ≤ b ∧ b < 2 ^ 100 ∧ 0 ≤ c ∧ c ≤ n
theorem Bag.mono {H : Hp} {p : Addr} {n m : Nat} (h : Bag H p n) (l : n ≤ m) : Bag H p m := by
  obtain ⟨g, b, c, e, h0, h1, h2, h3, h4⟩ := h
  exact ⟨g, b, c, e, h0, h1, h2, h3, by omega⟩
theorem Bag.same {H H' : Hp} {p : Addr} {n : Nat} (h : Bag H p n) (s : Same H H') : Bag H' p n := by
  obtain ⟨g, b, c, e, r⟩ := h
  exact ⟨g, b, c, s _ _ e, r⟩
/-- take(bag, many): a draw below many -/
def spTake : Sp := fun vs H Q _ => ∃ (p : Addr) (n : Nat) (m : Int), vs = [.ref p, .int m] ∧ Bag H p n ∧ n ≤ 1000000 ∧ 0 < m ∧ m < 1073741824 ∧
  ∀ (H' : Hp) (d : Int), 0 ≤ d → d < m → Bag H' p (n + 1) → But p H H' → Q (.int d) H'
theorem hu65 {A : Around} {k : Nat} (hr : Room k A) : A.units + 65 < cLine := Nat.lt_of_le_of_lt (Nat.add_le_add_left (by omega : 65 ≤ 16 * k + 200) _) (by have := hr.un; omega)
theorem at3 {a b c : V} : atI [a, b, c] 0 = some a ∧ atI [a, b, c] 1 = some b ∧ atI [a, b, c] 2 = some c :=
  ⟨atI_nat (j := 0) rfl, atI_nat (j := 1) rfl, atI_nat (j := 2) rfl⟩
/-- what follows in a row: another row, or a word -/
inductive Pl where
  | num (n : Nat) | word (s : Str)
  deriving DecidableEq
def Pl.v : Pl → V
  | .num n => .int (n : Int)
  | .word s => .str s
def Pl.key : Pl → Key
  | .num n => .inl (n : Int)
  | .word s => .inr s
theorem Pl.v_key (p : Pl) : p.v = kV p.key := by cases p <;> rfl
theorem Pl.v_inj {p q : Pl} (h : p.v = q.v) : p = q := by
  cases p <;> cases q <;> simp_all [Pl.v] <;> omega
theorem Pl.key_inj {p q : Pl} (h : p.key = q.key) : p = q := by
  cases p <;> cases q <;> simp_all [Pl.key] <;> omega
/-- it fits into a machine of so many rows with these words -/
def Pl.Ok (many : Nat) (ws : List Str) : Pl → Prop
  | .num n => n < many
  | .word s => s ∈ ws
instance {many : Nat} {ws : List Str} (p : Pl) : Decidable (p.Ok many ws) := match p with
  | .num n => inferInstanceAs (Decidable (n < many))
  | .word s => inferInstanceAs (Decidable (s ∈ ws))
structure Row where
  put : Nat
  a : Pl
  b : Pl
  deriving DecidableEq
def Row.vs (r : Row) : List V := [.int (r.put : Int), r.a.v, r.b.v]
def Row.Ok (many : Nat) (ws : List Str) (r : Row) : Prop := (r.put = 0 ∨ r.put = 1) ∧ r.a.Ok many ws ∧ r.b.Ok many ws
instance {many : Nat} {ws : List Str} (r : Row) : Decidable (r.Ok many ws) := inferInstanceAs (Decidable ((r.put = 0 ∨ r.put = 1) ∧ r.a.Ok many ws ∧ r.b.Ok many ws))
/-- v is a row of H -/
def RowAt (H : Hp) (v : V) (r : Row) : Prop := ∃ a, v = .ref a ∧ H a = some (.tup r.vs)
/-- the values vs are the rows rs -/
def RowsV (H : Hp) (vs : List V) (rs : List Row) : Prop := Paired (RowAt H) vs rs
theorem RowAt.same {H H' : Hp} {v : V} {r : Row} (s : Same H H') (h : RowAt H v r) : RowAt H' v r := by
  obtain ⟨a, e, x⟩ := h
  exact ⟨a, e, s _ _ x⟩
theorem RowsV.imp {H H' : Hp} {vs : List V} {rs : List Row} (f : ∀ v r, RowAt H v r → RowAt H' v r) (h : RowsV H vs rs) : RowsV H' vs rs := Paired.mapP h f
theorem RowsV.same {H H' : Hp} {vs : List V} {rs : List Row} (s : Same H H') (h : RowsV H vs rs) : RowsV H' vs rs := h.imp fun _ _ => RowAt.same s
/-- a list (the bag, say) is no row -/
theorem RowsV.but {H H' : Hp} {p : Addr} {vs : List V} {rs : List Row} (s : But p H H') (hp : ∀ xs, H p ≠ some (.tup xs)) (h : RowsV H vs rs) : RowsV H' vs rs :=
  h.imp fun _ _ ⟨a, e, x⟩ => ⟨a, e, s _ _ x fun z => hp _ (by rw [← z]; exact x)⟩
theorem RowsV.get : ∀ {H : Hp} {vs : List V} {rs : List Row}, RowsV H vs rs → ∀ (i : Nat) (v : V), vs[i]? = some v → ∃ r, rs[i]? = some r ∧ RowAt H v r
  | _, _, _, .nil, i, v, e => by simp at e
  | _, _, _, .cons h t, 0, v, e => by
    simp at e
    subst e
    exact ⟨_, rfl, h⟩
  | _, _, _, .cons h t, i + 1, v, e => by
    obtain ⟨r, e1, e2⟩ := RowsV.get (vs := _) t i v (by simpa using e)
    exact ⟨r, by simpa using e1, e2⟩
theorem RowsV.get' : ∀ {H : Hp} {vs : List V} {rs : List Row}, RowsV H vs rs → ∀ (i : Nat) (r : Row), rs[i]? = some r → ∃ v, vs[i]? = some v ∧ RowAt H v r
  | _, _, _, .nil, i, v, e => by simp at e
  | _, _, _, .cons h t, 0, v, e => by
    simp at e
    subst e
    exact ⟨_, rfl, h⟩
  | _, _, _, .cons h t, i + 1, v, e => by
    obtain ⟨r, e1, e2⟩ := RowsV.get' (vs := _) t i v (by simpa using e)
    exact ⟨r, by simpa using e1, e2⟩
theorem RowsV.len {H : Hp} {vs : List V} {rs : List Row} (h : RowsV H vs rs) : vs.length = rs.length := Paired.length h
theorem RowsV.snoc {H : Hp} {v : V} {r : Row} (x : RowAt H v r) : ∀ {vs : List V} {rs : List Row}, RowsV H vs rs → RowsV H (vs ++ [v]) (rs ++ [r])
  | _, _, .nil => .cons x .nil
  | _, _, .cons h t => .cons h (RowsV.snoc x t)
theorem Bag.no {H : Hp} {p : Addr} {n : Nat} (h : Bag H p n) (xs : List V) : H p ≠ some (.tup xs) := by
  obtain ⟨g, b, c, e, _⟩ := h
  rw [e]
  intro z
  cases Option.some.inj z
end Sb

set_option Elab.async false
set_option linter.all false
set_option maxHeartbeats 2000000
/-! Sbm: where heard bits lead, in plain lists. -/
namespace Sb
open PySem L2
/-- p follows row i -/
def Fol (rows : List Row) (i : Nat) (p : Pl) : Prop := ∃ r, rows[i]? = some r ∧ (p = r.a ∨ p = r.b)
/-- some heard bits lead from row b to p -/
inductive Reach (rows : List Row) (b : Nat) : Pl → Prop where
  | base : Reach rows b (.num b)
  | step {i : Nat} {p : Pl} (h : Reach rows b (.num i)) (f : Fol rows i p) : Reach rows b p
def Pl.isNum : Pl → Bool
  | .num _ => true
  | .word _ => false
/-- what holds of the found ones and of those ahead; k (where it is some row) waits for its followers but the first j -/
structure RInv (rows : List Row) (b : Nat) (fs : List Pl) (as : List Nat) (hold : Option (Nat × Nat)) : Prop where
  nd : fs.Nodup
  sound : ∀ x, x ∈ fs → Reach rows b x
  start : Pl.num b ∈ fs
  sub : ∀ i, i ∈ as → Pl.num i ∈ fs
  small : ∀ i, Pl.num i ∈ fs → i < rows.length
  closed : ∀ i, Pl.num i ∈ fs → i ∉ as → (∀ j, hold ≠ some (i, j)) → ∀ p, Fol rows i p → p ∈ fs
  held : ∀ i j, hold = some (i, j) → Pl.num i ∈ fs ∧ ∀ r, rows[i]? = some r → (1 ≤ j → r.a ∈ fs) ∧ (2 ≤ j → r.b ∈ fs)
theorem RInv.begin {rows : List Row} {b : Nat} (h : b < rows.length) : RInv rows b [.num b] [b] none :=
  ⟨by simp, fun x hx => by simp at hx; subst hx; exact .base, by simp, fun i hi => by simp at hi; simp [hi], fun i hi => by simp at hi; omega,
   fun i hi ha => by simp at hi; simp [hi] at ha, fun i j z => by cases z⟩
theorem RInv.pop {rows : List Row} {b i : Nat} {fs : List Pl} {as : List Nat} (h : RInv rows b fs (as ++ [i]) none) : RInv rows b fs as (some (i, 0)) :=
  ⟨h.nd, h.sound, h.start, fun j hj => h.sub j (by simp [hj]), h.small, fun j hj ha hn p hp => h.closed j hj (by
      intro z
      rcases List.mem_append.mp z with z | z
      · exact ha z
      · simp at z
        exact hn 0 (by rw [z])) (by intro k z; cases z) p hp,
    fun k j e => by
      cases e
      exact ⟨h.sub i (by simp), fun r _ => ⟨fun z => absurd z (by omega), fun z => absurd z (by omega)⟩⟩⟩
theorem RInv.done {rows : List Row} {b i : Nat} {fs : List Pl} {as : List Nat} (h : RInv rows b fs as (some (i, 2))) : RInv rows b fs as none :=
  ⟨h.nd, h.sound, h.start, h.sub, h.small, fun j hj ha _ p hp => by
      by_cases e : j = i
      · subst e
        obtain ⟨r, hr, hp⟩ := hp
        obtain ⟨_, q⟩ := h.held j 2 rfl
        obtain ⟨q1, q2⟩ := q r hr
        rcases hp with rfl | rfl
        · exact q1 (by omega)
        · exact q2 (by omega)
      · exact h.closed j hj ha (fun k z => by cases z; exact e rfl) p hp, fun k j z => by cases z⟩
/-- the j-th follower is found already -/
theorem RInv.skip {rows : List Row} {b i j : Nat} {fs : List Pl} {as : List Nat} {r : Row} {p : Pl} (h : RInv rows b fs as (some (i, j))) (hr : rows[i]? = some r) (hp : (j = 0 ∧ p = r.a) ∨ (j = 1 ∧ p = r.b)) (hf : p ∈ fs) :
    RInv rows b fs as (some (i, j + 1)) :=
  ⟨h.nd, h.sound, h.start, h.sub, h.small, fun k hk ha hn => h.closed k hk ha (fun l z => by cases z; exact hn _ rfl), fun k l z => by
    cases z
    obtain ⟨q0, q⟩ := h.held i j rfl
    refine ⟨q0, fun r' hr' => ?_⟩
    rw [hr] at hr'
    cases hr'
    obtain ⟨q1, q2⟩ := q r hr
    rcases hp with ⟨rfl, rfl⟩ | ⟨rfl, rfl⟩
    · exact ⟨fun _ => hf, fun z => absurd z (by omega)⟩
    · exact ⟨fun _ => q1 (by omega), fun _ => hf⟩⟩
/-- a row that is new is ahead -/
def more (as : List Nat) : Pl → List Nat
  | .num k => as ++ [k]
  | .word _ => as
/-- it is new -/
theorem RInv.add {rows : List Row} {b i j : Nat} {fs : List Pl} {as : List Nat} {r : Row} {p : Pl} (h : RInv rows b fs as (some (i, j))) (hr : rows[i]? = some r) (hp : (j = 0 ∧ p = r.a) ∨ (j = 1 ∧ p = r.b)) (hf : p ∉ fs)
    (hs : ∀ k, p = .num k → k < rows.length) : RInv rows b (fs ++ [p]) (more as p) (some (i, j + 1)) := by
  have hi : Pl.num i ∈ fs := (h.held i j rfl).1
  have fol : Fol rows i p := ⟨r, hr, by rcases hp with ⟨_, e⟩ | ⟨_, e⟩ <;> simp [e]⟩
  have mem_as : ∀ k, k ∈ (more as p) → k ∈ as ∨ p = .num k := fun k hk => by
    cases p with
    | num m =>
      rcases List.mem_append.mp hk with z | z
      · exact .inl z
      · simp at z
        exact .inr (by rw [z])
    | word z => exact .inl hk
  have as_mem : ∀ k, k ∈ as → k ∈ (more as p) := fun k hk => by
    cases p with
    | num m => exact List.mem_append_left _ hk
    | word z => exact hk
  refine ⟨?_, ?_, by simp [h.start], ?_, ?_, ?_, ?_⟩
  · rw [List.nodup_append]
    refine ⟨h.nd, by simp, fun x hx y hy => ?_⟩
    simp at hy
    subst hy
    rintro rfl
    exact hf hx
  · intro x hx
    rcases List.mem_append.mp hx with z | z
    · exact h.sound x z
    · simp at z
      subst z
      exact .step (h.sound _ hi) fol
  · intro k hk
    rcases mem_as k hk with z | z
    · exact List.mem_append_left _ (h.sub k z)
    · rw [← z]
      simp
  · intro k hk
    rcases List.mem_append.mp hk with z | z
    · exact h.small k z
    · simp at z
      exact hs k z.symm
  · intro k hk ha hn q hq
    rcases List.mem_append.mp hk with z | z
    · exact List.mem_append_left _ (h.closed k z (fun y => ha (as_mem k y)) (fun l y => by cases y; exact hn _ rfl) q hq)
    · simp at z
      subst z
      exact absurd (List.mem_append_right _ (by simp)) ha
  · intro k l z
    cases z
    obtain ⟨_, q⟩ := h.held i j rfl
    refine ⟨List.mem_append_left _ hi, fun r' hr' => ?_⟩
    rw [hr] at hr'
    cases hr'
    obtain ⟨q1, q2⟩ := q r hr
    rcases hp with ⟨rfl, rfl⟩ | ⟨rfl, rfl⟩
    · exact ⟨fun _ => by simp, fun z => absurd z (by omega)⟩
    · exact ⟨fun _ => List.mem_append_left _ (q1 (by omega)), fun _ => by simp⟩
/-- nothing is ahead: just what is led to is found -/
theorem RInv.all {rows : List Row} {b : Nat} {fs : List Pl} (h : RInv rows b fs [] none) (x : Pl) : x ∈ fs ↔ Reach rows b x := by
  refine ⟨h.sound x, fun z => ?_⟩
  induction z with
  | base => exact h.start
  | step _ f ih => exact h.closed _ ih (by simp) (by intro k z; cases z) _ f
/-- the first row that is none -/
def firstBad (n : Nat) (ws : List Str) : List Row → Nat → Option Nat
  | [], _ => none
  | r :: t, i => if r.Ok n ws then firstBad n ws t (i + 1) else some i
theorem firstBad_none {n : Nat} {ws : List Str} : ∀ {l : List Row} {i : Nat}, firstBad n ws l i = none → ∀ r, r ∈ l → r.Ok n ws
  | [], _, _, r, h => by simp at h
  | x :: t, i, e, r, h => by
    unfold firstBad at e
    by_cases c : x.Ok n ws
    · rw [if_pos c] at e
      rcases List.mem_cons.mp h with z | z
      · rw [z]
        exact c
      · exact firstBad_none e r z
    · rw [if_neg c] at e
      cases e
theorem firstBad_all {n : Nat} {ws : List Str} : ∀ {l : List Row} {i : Nat}, (∀ r, r ∈ l → r.Ok n ws) → firstBad n ws l i = none
  | [], _, _ => rfl
  | x :: t, i, h => by
    unfold firstBad
    rw [if_pos (h x (by simp))]
    exact firstBad_all fun r hr => h r (by simp [hr])
theorem firstBad_at {n : Nat} {ws : List Str} : ∀ {l : List Row} {i k : Nat} {r : Row}, l[k]? = some r → ¬ r.Ok n ws → (∀ (j : Nat) (r' : Row), j < k → l[j]? = some r' → r'.Ok n ws) → firstBad n ws l i = some (i + k)
  | [], i, k, r, e, _, _ => by simp at e
  | x :: t, i, 0, r, e, h, _ => by
    simp at e
    subst e
    unfold firstBad
    rw [if_neg h]
    rfl
  | x :: t, i, k + 1, r, e, h, hp => by
    unfold firstBad
    rw [if_pos (hp 0 x (by omega) rfl), firstBad_at (l := t) (i := i + 1) (k := k) (r := r) (by simpa using e) h fun j r' hj hr => hp (j + 1) r' (by omega) (by simpa using hr)]
    congr 1
    omega
/-- what is wrong with a machine: None for its size, else the first index of no row -/
def machineFault (few most : Nat) (ws : List Str) (rows : List Row) : Option V :=
  if few ≤ rows.length ∧ rows.length ≤ most then (firstBad rows.length ws rows 0).map fun i => V.int (i : Int) else some .non
def hearerWords : List Str := ["taken", "lost"]
def senderWords : List Str := ["done", "again"]
open Classical in
/-- what is wrong with an end, the hearer's machine first -/
noncomputable def endFault (hs ss : List Row) : Option (V × V) :=
  match machineFault 2 100 hearerWords hs with
  | some v => some (.str "hearer", v)
  | none => match machineFault 1 100 senderWords ss with
    | some v => some (.str "sender", v)
    | none => if Reach hs 1 (.word "taken") then some (.str "body", .non) else none
theorem mf_none {few most : Nat} {ws : List Str} {rows : List Row} (h : machineFault few most ws rows = none) : few ≤ rows.length ∧ rows.length ≤ most ∧ ∀ r, r ∈ rows → r.Ok rows.length ws := by
  unfold machineFault at h
  by_cases c : few ≤ rows.length ∧ rows.length ≤ most
  · rw [if_pos c] at h
    refine ⟨c.1, c.2, firstBad_none (i := 0) ?_⟩
    cases e : firstBad rows.length ws rows 0 with
    | none => rfl
    | some i =>
      rw [e] at h
      cases h
  · rw [if_neg c] at h
    cases h
theorem mf_ok {few most : Nat} {ws : List Str} {rows : List Row} (h1 : few ≤ rows.length) (h2 : rows.length ≤ most) (h : ∀ r, r ∈ rows → r.Ok rows.length ws) : machineFault few most ws rows = none := by
  unfold machineFault
  rw [if_pos ⟨h1, h2⟩, firstBad_all h]
  rfl
theorem mf_size {few most : Nat} {ws : List Str} {rows : List Row} (h : ¬ (few ≤ rows.length ∧ rows.length ≤ most)) : machineFault few most ws rows = some .non := if_neg h
theorem mf_row {few most : Nat} {ws : List Str} {rows : List Row} {i : Nat} {r : Row} (h1 : few ≤ rows.length) (h2 : rows.length ≤ most) (e : rows[i]? = some r) (hb : ¬ r.Ok rows.length ws) (hp : ∀ (j : Nat) (r' : Row), j < i → rows[j]? = some r' → r'.Ok rows.length ws) :
    machineFault few most ws rows = some (.int (i : Int)) := by
  unfold machineFault
  rw [if_pos ⟨h1, h2⟩, firstBad_at (i := 0) e hb hp, Nat.zero_add]
  rfl
/-- how many rows are found -/
def nums (fs : List Pl) : Nat := (fs.filter Pl.isNum).length
theorem nodup_len {l : List Nat} : ∀ {n : Nat}, l.Nodup → (∀ x, x ∈ l → x < n) → l.length ≤ n := by
  intro n
  induction n generalizing l with
  | zero =>
    intro _ h
    cases l with
    | nil => simp
    | cons x r => exact absurd (h x (by simp)) (by omega)
  | succ n ih =>
    intro nd h
    have e : l.length ≤ (l.erase n).length + 1 := by
      rw [List.length_erase]
      split <;> omega
    have := ih (l := l.erase n) (nd.erase n) fun x hx => by
      have h1 := h x (List.mem_of_mem_erase hx)
      have h2 : x ≠ n := fun z => by
        subst z
        exact (List.Nodup.not_mem_erase nd) hx
      omega
    omega
theorem nums_le {fs : List Pl} {n : Nat} (nd : fs.Nodup) (h : ∀ i, Pl.num i ∈ fs → i < n) : nums fs ≤ n := by
  have e : nums fs = (fs.filterMap fun p => match p with | .num i => some i | .word _ => none).length := by
    unfold nums
    clear nd h
    induction fs with
    | nil => rfl
    | cons p r ih =>
      cases p with
      | num i => simp [Pl.isNum, List.filter_cons, ih]
      | word z => simp [Pl.isNum, List.filter_cons, ih]
  rw [e]
  refine nodup_len ?_ fun x hx => ?_
  · refine List.Pairwise.filterMap _ ?_ nd
    intro p q hpq x hx y hy
    cases p <;> cases q <;> simp_all
  · obtain ⟨p, hp, hx⟩ := List.mem_filterMap.mp hx
    cases p with
    | num i =>
      simp at hx
      subst hx
      exact h i hp
    | word z => simp at hx
theorem nums_snoc {fs : List Pl} {p : Pl} : nums (fs ++ [p]) = nums fs + (match p with | .num _ => 1 | .word _ => 0) := by
  unfold nums
  cases p <;> simp [Pl.isNum, List.filter_append, List.filter_cons]
end Sb

set_option Elab.async false
set_option linter.all false
set_option maxHeartbeats 2000000
/-! Sbw: ways without a row twice, from row 1. -/
namespace Sb
open PySem L2
/-- a way from row 1 on which no row comes twice -/
inductive Way (rows : List Row) : List Nat → Prop where
  | one : Way rows [1]
  | more {p : List Nat} {i j : Nat} (w : Way rows (p ++ [i])) (f : Fol rows i (.num j)) (n : j ∉ p ++ [i]) : Way rows (p ++ [i] ++ [j])
theorem Way.last {rows : List Row} {q : List Nat} (w : Way rows q) : ∃ p i, q = p ++ [i] := by
  cases w with
  | one => exact ⟨[], 1, rfl⟩
  | more w f n => exact ⟨_, _, rfl⟩
theorem snoc_inj {p q : List Nat} {i j : Nat} (h : p ++ [i] = q ++ [j]) : p = q ∧ i = j := by
  have := List.append_inj' h rfl
  exact ⟨this.1, by simpa using this.2⟩
theorem Way.reach {rows : List Row} {q : List Nat} (w : Way rows q) : ∀ p i, q = p ++ [i] → Reach rows 1 (.num i) := by
  induction w with
  | one =>
    intro p i h
    obtain ⟨rfl, rfl⟩ := snoc_inj (p := []) (i := 1) (q := p) (j := i) h
    exact .base
  | more w f n ih =>
    intro p i h
    obtain ⟨rfl, rfl⟩ := snoc_inj h
    exact .step (ih _ _ rfl) f
theorem Way.nodup {rows : List Row} {q : List Nat} (w : Way rows q) : q.Nodup := by
  induction w with
  | one => simp
  | more w f n ih =>
    rw [List.nodup_append]
    refine ⟨ih, by simp, fun x hx y hy => ?_⟩
    simp at hy
    subst hy
    rintro rfl
    exact n hx
theorem Way.pos {rows : List Row} {q : List Nat} (w : Way rows q) : 1 ≤ q.length := by
  obtain ⟨p, i, rfl⟩ := w.last
  simp
theorem Way.small {rows : List Row} {q : List Nat} {n : Nat} (hn : 1 < n) (hf : ∀ i j, Fol rows i (.num j) → j < n) (w : Way rows q) : ∀ x, x ∈ q → x < n := by
  induction w with
  | one =>
    intro x hx
    simp at hx
    omega
  | more w f n' ih =>
    intro x hx
    rcases List.mem_append.mp hx with z | z
    · exact ih x z
    · simp at z
      subst z
      exact hf _ _ f
/-- a way to each row on a way -/
theorem Way.cut {rows : List Row} {q : List Nat} (w : Way rows q) : ∀ x, x ∈ q → ∃ p, Way rows (p ++ [x]) := by
  induction w with
  | one =>
    intro x hx
    simp at hx
    subst hx
    exact ⟨[], .one⟩
  | more w f n ih =>
    intro x hx
    rcases List.mem_append.mp hx with z | z
    · exact ih x z
    · simp at z
      subst z
      exact ⟨_, .more w f n⟩
theorem Way.of_reach {rows : List Row} {x : Pl} (h : Reach rows 1 x) : ∀ i, x = .num i → ∃ p, Way rows (p ++ [i]) := by
  induction h with
  | base =>
    intro i e
    cases e
    exact ⟨[], .one⟩
  | @step k p h f ih =>
    intro i e
    subst e
    obtain ⟨p, w⟩ := ih k rfl
    by_cases c : i ∈ p ++ [k]
    · exact w.cut i c
    · exact ⟨_, .more w f c⟩
/-- a word behind some way -/
def Told (rows : List Row) (k : Nat) (z : Str) : Prop := ∃ p i, Way rows (p ++ [i]) ∧ (p ++ [i]).length ≤ k ∧ Fol rows i (.word z)
theorem told_iff {rows : List Row} {n : Nat} (hn : 1 < n) (hf : ∀ i j, Fol rows i (.num j) → j < n) (z : Str) : Told rows n z ↔ Reach rows 1 (.word z) := by
  refine ⟨fun ⟨p, i, w, _, f⟩ => .step (w.reach _ _ rfl) f, fun h => ?_⟩
  generalize e : Pl.word z = x at h
  cases h with
  | base => cases e
  | @step i _ h f =>
    subst e
    obtain ⟨p, w⟩ := Way.of_reach h i rfl
    exact ⟨p, i, w, nodup_len w.nodup (w.small hn hf), f⟩
/-- the ways of k + 1 rows from those of k: by the followers of the last -/
theorem way_step {rows : List Row} {q : List Nat} {k : Nat} (hk : 1 ≤ k) : Way rows q ∧ q.length = k + 1 ↔ ∃ p i j, Way rows (p ++ [i]) ∧ (p ++ [i]).length = k ∧ Fol rows i (.num j) ∧ j ∉ p ++ [i] ∧ q = p ++ [i] ++ [j] := by
  constructor
  · rintro ⟨w, hl⟩
    cases w with
    | one =>
      simp at hl
      omega
    | @more p i j w f n => exact ⟨p, i, j, w, by simp at hl ⊢; omega, f, n, rfl⟩
  · rintro ⟨p, i, j, w, hl, f, n, rfl⟩
    exact ⟨.more w f n, by simp at hl ⊢; omega⟩
/-- a way as Python's data -/
def wayD (q : List Nat) : PyData := .tuple (q.map fun (n : Nat) => PyData.int (n : Int))
theorem ints_lay : ∀ q : List Nat, PyData.canLayAll0 (q.map fun (n : Nat) => PyData.int (n : Int)) = true
  | [] => by simp [PyData.canLayAll0]
  | z :: zs => by simp [PyData.canLayAll0, PyData.canLay0, ints_lay zs]
theorem ints_depth : ∀ q : List Nat, PyData.depthAll (q.map fun (n : Nat) => PyData.int (n : Int)) = 0
  | [] => by simp [PyData.depthAll]
  | z :: zs => by simp [PyData.depthAll, PyData.depth, ints_depth zs]
theorem wayD_shaped (q : List Nat) : SeqAt.shaped (wayD q) = true := by
  show ((wayD q).canLay0 && decide ((wayD q).depth ≤ 64)) = true
  rw [Bool.and_eq_true]
  exact ⟨by simp [wayD, PyData.canLay0, ints_lay], decide_eq_true (by simp [wayD, PyData.depth, ints_depth])⟩
theorem ways_lay : ∀ qs : List (List Nat), PyData.canLayAll0 (qs.map wayD) = true
  | [] => by simp [PyData.canLayAll0]
  | z :: zs => by simp [PyData.canLayAll0, wayD, PyData.canLay0, ints_lay]; exact ways_lay zs
theorem ways_depth : ∀ qs : List (List Nat), PyData.depthAll (qs.map wayD) ≤ 1
  | [] => by simp [PyData.depthAll]
  | z :: zs => by
    have := ways_depth zs
    simp [PyData.depthAll, wayD, PyData.depth, ints_depth] at this ⊢
    omega
theorem ways_shaped (qs : List (List Nat)) : SeqAt.shaped (.list (qs.map wayD)) = true := by
  have h1 := ways_depth qs
  show (PyData.canLay0 (.list (qs.map wayD)) && decide (PyData.depth (.list (qs.map wayD)) ≤ 64)) = true
  rw [Bool.and_eq_true]
  exact ⟨by simp only [PyData.canLay0]; exact ways_lay qs, decide_eq_true (by simp only [PyData.depth]; omega)⟩
theorem wayD_eqv : ∀ p q : List Nat, PyData.eqv (wayD p) (wayD q) = decide (p = q)
  | [], [] => by simp [wayD, PyData.eqv, PyData.eqvAll]
  | [], y :: q => by simp [wayD, PyData.eqv, PyData.eqvAll]
  | x :: p, [] => by simp [wayD, PyData.eqv, PyData.eqvAll]
  | x :: p, y :: q => by
    have ih := wayD_eqv p q
    simp only [wayD, PyData.eqv] at ih
    simp only [wayD, PyData.eqv, List.map_cons, PyData.eqvAll, ih]
    by_cases h : x = y
    · subst h
      simp
    · have e : ((x : Int) == (y : Int)) = false := beq_eq_false_iff_ne.mpr (by omega)
      rw [e]
      simp [h]
end Sb

set_option Elab.async false
set_option linter.all false
set_option maxHeartbeats 2000000
/-! Sbc: chains of rows. -/
namespace Sb
open PySem L2
def cLink (i : Nat) : Row := ⟨0, .num i, .word "lost"⟩
def cRest : Row := ⟨1, .word "lost", .word "taken"⟩
def cEnd (last : Str) : Row := ⟨1, .word "lost", .word last⟩
/-- one link more: the rows so far, the row that is to be written -/
def cStep (s : List Row × Nat) (i : Nat) : List Row × Nat := (s.1.set s.2 (cLink i), i)
def cGo (n : Nat) (ns : List Nat) : List Row × Nat := ns.foldl cStep (List.replicate n cRest, 1)
def chainRows (ns : List Nat) (last : Str) : List Row := (cGo (ns.length + 2) ns).1.set (cGo (ns.length + 2) ns).2 (cEnd last)
theorem cGo_snoc (n : Nat) (ns : List Nat) (i : Nat) : cGo n (ns ++ [i]) = cStep (cGo n ns) i := by
  unfold cGo
  rw [List.foldl_append]
  rfl
theorem cGo_at (n : Nat) : ∀ ns : List Nat, (cGo n ns).2 = (1 :: ns).getLast (by simp)
  | [] => rfl
  | x :: r => by
    rcases List.eq_nil_or_concat (x :: r) with z | ⟨p, i, z⟩
    · cases z
    · have z' : x :: r = p ++ [i] := by simpa using z
      rw [List.getLast_cons (by simp)]
      simp only [z', cGo_snoc]
      simp [cStep]
theorem cGo_len (n : Nat) (ns : List Nat) : (cGo n ns).1.length = n := by
  unfold cGo
  have : ∀ (l : List Nat) (s : List Row × Nat), (l.foldl cStep s).1.length = s.1.length := by
    intro l
    induction l with
    | nil => intro s; rfl
    | cons i r ih =>
      intro s
      rw [List.foldl_cons, ih]
      simp [cStep]
  rw [this]
  simp
theorem chain_len (ns : List Nat) (last : Str) : (chainRows ns last).length = ns.length + 2 := by
  unfold chainRows
  rw [List.length_set, cGo_len]
theorem mem_set {α : Type} {l : List α} {i : Nat} {a x : α} (h : x ∈ l.set i a) : x ∈ l ∨ x = a := List.mem_or_eq_of_mem_set h
theorem cGo_ok (n m : Nat) (ws : List Str) (h1 : ("taken" : Str) ∈ ws) (h2 : ("lost" : Str) ∈ ws) (ns : List Nat) (h : ∀ x, x ∈ ns → x < m) : ∀ r, r ∈ (cGo n ns).1 → r.Ok m ws := by
  unfold cGo
  have : ∀ (l : List Nat) (s : List Row × Nat), (∀ x, x ∈ l → x < m) → (∀ r, r ∈ s.1 → r.Ok m ws) → ∀ r, r ∈ (l.foldl cStep s).1 → r.Ok m ws := by
    intro l
    induction l with
    | nil => intro s _ hs; exact hs
    | cons i t ih =>
      intro s hl hs
      rw [List.foldl_cons]
      refine ih _ (fun x hx => hl x (by simp [hx])) fun r hr => ?_
      rcases mem_set hr with z | z
      · exact hs r z
      · subst z
        exact ⟨.inl rfl, hl i (by simp), h2⟩
  refine this ns _ h fun r hr => ?_
  have := List.eq_of_mem_replicate hr
  subst this
  exact ⟨.inr rfl, h2, h1⟩
theorem chain_ok (ns : List Nat) (last : Str) (hl : last ∈ hearerWords) (h : ∀ x, x ∈ ns → x < ns.length + 2) : ∀ r, r ∈ chainRows ns last → r.Ok (chainRows ns last).length hearerWords := by
  rw [chain_len]
  intro r hr
  unfold chainRows at hr
  rcases mem_set hr with z | z
  · exact cGo_ok _ _ _ (by decide +kernel) (by decide +kernel) ns h r z
  · subst z
    exact ⟨.inr rfl, (by decide +kernel : ("lost" : Str) ∈ hearerWords), hl⟩
/-- the rows on the way: each but the last leads to the next -/
theorem cGo_rows (n : Nat) : ∀ (ns : List Nat), (1 :: ns).Nodup → (∀ x, x ∈ 1 :: ns → x < n) → ∀ (t i j : Nat), (1 :: ns)[t]? = some i → (1 :: ns)[t + 1]? = some j → (cGo n ns).1[i]? = some (cLink j) := by
  intro ns
  induction hN : ns.length generalizing ns with
  | zero =>
    intro _ _ t i j h1 h2
    have : ns = [] := List.length_eq_zero_iff.mp hN
    subst this
    simp at h2
  | succ k ih =>
    intro nd hn t i j h1 h2
    rcases List.eq_nil_or_concat ns with z | ⟨p, y, z⟩
    · subst z
      simp at hN
    · have z' : ns = p ++ [y] := by simpa using z
      subst z'
      have hp : p.length = k := by simpa using hN
      have nd' : (1 :: p).Nodup := by
        have e : 1 :: (p ++ [y]) = (1 :: p) ++ [y] := rfl
        rw [e, List.nodup_append] at nd
        exact nd.1
      have hn' : ∀ x, x ∈ 1 :: p → x < n := fun x hx => hn x (by
        rcases List.mem_cons.mp hx with z | z
        · simp [z]
        · simp [z])
      rw [cGo_snoc]
      unfold cStep
      have el : (cGo n p).2 = (1 :: p).getLast (by simp) := cGo_at n p
      have ecat : 1 :: (p ++ [y]) = (1 :: p) ++ [y] := rfl
      rw [ecat] at h1 h2
      rcases Nat.lt_or_ge (t + 1) (1 :: p).length with ht | ht
      · rw [List.getElem?_append_left (by omega)] at h1
        rw [List.getElem?_append_left ht] at h2
        have := ih p hp nd' hn' t i j h1 h2
        have ne : (cGo n p).2 ≠ i := by
          rw [el, List.getLast_eq_getElem]
          intro e
          have h1' := (List.getElem?_eq_some_iff.mp h1)
          obtain ⟨hlt, e1⟩ := h1'
          rw [← e1] at e
          have := (List.getElem_inj nd').mp e
          simp at this ht
          omega
        show ((cGo n p).1.set (cGo n p).2 (cLink y))[i]? = some (cLink j)
        rw [List.getElem?_set_ne ne]
        exact this
      · have ht2 : t + 1 = (1 :: p).length := by
          have := (List.getElem?_eq_some_iff.mp h2).1
          simp at this ht ⊢
          omega
        rw [List.getElem?_append_right ht, ht2, Nat.sub_self] at h2
        cases Option.some.inj h2
        have hlt : t < (1 :: p).length := by omega
        rw [List.getElem?_append_left hlt] at h1
        have ei : (cGo n p).2 = i := by
          rw [el, List.getLast_eq_getElem]
          obtain ⟨h3, e1⟩ := List.getElem?_eq_some_iff.mp h1
          rw [← e1]
          congr 1
          omega
        show ((cGo n p).1.set (cGo n p).2 (cLink j))[i]? = some (cLink j)
        rw [ei, List.getElem?_set_self]
        rw [cGo_len]
        exact hn' i (List.mem_of_getElem? h1)
theorem chain_link {ns : List Nat} {last : Str} (nd : (1 :: ns).Nodup) (hn : ∀ x, x ∈ 1 :: ns → x < ns.length + 2) {t i j : Nat} (h1 : (1 :: ns)[t]? = some i) (h2 : (1 :: ns)[t + 1]? = some j) : (chainRows ns last)[i]? = some (cLink j) := by
  unfold chainRows
  have ne : (cGo (ns.length + 2) ns).2 ≠ i := by
    rw [cGo_at, List.getLast_eq_getElem]
    intro e
    obtain ⟨hlt, e1⟩ := List.getElem?_eq_some_iff.mp h1
    rw [← e1] at e
    have := (List.getElem_inj nd).mp e
    have h3 := (List.getElem?_eq_some_iff.mp h2).1
    simp at this h3
    omega
  rw [List.getElem?_set_ne ne]
  exact cGo_rows _ ns nd hn t i j h1 h2
theorem chain_last {ns : List Nat} {last : Str} (hn : ∀ x, x ∈ 1 :: ns → x < ns.length + 2) : (chainRows ns last)[(1 :: ns).getLast (by simp)]? = some (cEnd last) := by
  unfold chainRows
  rw [cGo_at, List.getElem?_set_self]
  rw [cGo_len]
  exact hn _ (List.getLast_mem _)
theorem chain_reach {ns : List Nat} {last : Str} (nd : (1 :: ns).Nodup) (hn : ∀ x, x ∈ 1 :: ns → x < ns.length + 2) (z : Str) : Reach (chainRows ns last) 1 (.word z) ↔ z = "lost" ∧ True ∨ z = last := by
  constructor
  · intro h
    have key : ∀ x, Reach (chainRows ns last) 1 x → (∃ (t i : Nat), (1 :: ns)[t]? = some i ∧ x = .num i) ∨ x = .word "lost" ∨ x = .word last := by
      intro x h
      induction h with
      | base => exact .inl ⟨0, 1, rfl, rfl⟩
      | @step i p h f ih =>
        rcases ih with ⟨t, i', ht, e⟩ | e | e
        · cases e
          obtain ⟨r, hr, hp⟩ := f
          cases hj : (1 :: ns)[t + 1]? with
          | some j =>
            rw [chain_link nd hn ht hj] at hr
            cases hr
            rcases hp with rfl | rfl
            · exact .inl ⟨t + 1, j, hj, rfl⟩
            · exact .inr (.inl rfl)
          | none =>
            have e1 : i = (1 :: ns).getLast (by simp) := by
              rw [List.getLast_eq_getElem]
              obtain ⟨h3, e1⟩ := List.getElem?_eq_some_iff.mp ht
              rw [← e1]
              have := List.getElem?_eq_none_iff.mp hj
              congr 1
              simp at this h3 ⊢
              omega
            rw [e1, chain_last hn] at hr
            cases hr
            rcases hp with rfl | rfl
            · exact .inr (.inl rfl)
            · exact .inr (.inr rfl)
        · cases e
        · cases e
    rcases key _ h with ⟨_, _, _, e⟩ | e | e
    · cases e
    · cases e
      exact .inl ⟨rfl, trivial⟩
    · cases e
      exact .inr rfl
  · have all : ∀ (t i : Nat), (1 :: ns)[t]? = some i → Reach (chainRows ns last) 1 (.num i) := by
      intro t
      induction t with
      | zero =>
        intro i h
        cases Option.some.inj h
        exact .base
      | succ t ih =>
        intro j hj
        have hlt := (List.getElem?_eq_some_iff.mp hj).1
        obtain ⟨i, hi⟩ : ∃ i, (1 :: ns)[t]? = some i := ⟨_, List.getElem?_eq_getElem (by omega)⟩
        exact .step (ih i hi) ⟨_, chain_link nd hn hi hj, .inl rfl⟩
    have last' : Reach (chainRows ns last) 1 (.num ((1 :: ns).getLast (by simp))) := by
      refine all ns.length _ ?_
      rw [List.getLast_eq_getElem]
      simp
    rintro (⟨rfl, _⟩ | rfl)
    · exact .step last' ⟨_, chain_last hn, .inl rfl⟩
    · exact .step last' ⟨_, chain_last hn, .inr rfl⟩
def tailRows : List Row := [⟨1, .word "again", .word "done"⟩]
theorem tail_ok : machineFault 1 100 senderWords tailRows = none := mf_ok (by decide) (by decide) fun r hr => by
  simp [tailRows] at hr
  subst hr
  exact ⟨.inr rfl, (by decide +kernel : ("again" : Str) ∈ senderWords), (by decide +kernel : ("done" : Str) ∈ senderWords)⟩
theorem chain_fault {ns : List Nat} {last : Str} (hl : last ∈ hearerWords) (nd : ns.Nodup) (h2 : ∀ x, x ∈ ns → 2 ≤ x ∧ x < ns.length + 2) (hz : ns.length ≤ 98) :
    endFault (chainRows ns last) tailRows = if last = "taken" then some (.str "body", .non) else none := by
  have nd1 : (1 :: ns).Nodup := List.nodup_cons.mpr ⟨fun h => by
    have := h2 1 h
    omega, nd⟩
  have hn : ∀ x, x ∈ 1 :: ns → x < ns.length + 2 := fun x hx => by
    rcases List.mem_cons.mp hx with z | z
    · omega
    · exact (h2 x z).2
  unfold endFault
  rw [mf_ok (by rw [chain_len]; omega) (by rw [chain_len]; omega) (chain_ok ns last hl fun x hx => (h2 x hx).2), tail_ok]
  have e : Reach (chainRows ns last) 1 (.word "taken") ↔ last = "taken" := by
    rw [chain_reach nd1 hn]
    constructor
    · rintro (⟨h, _⟩ | h)
      · exact absurd h (by decide +kernel)
      · exact h.symm
    · intro h
      exact .inr h.symm
  by_cases c : last = "taken"
  · rw [if_pos c]
    exact if_pos (e.mpr c)
  · rw [if_neg c]
    exact if_neg fun z => c (e.mp z)
end Sb

set_option Elab.async false
set_option linter.all false
set_option maxRecDepth 100000
set_option maxHeartbeats 2000000
namespace K03
open PySem L2 Sb
def top (i : Nat) : Stmt := PySem.Challenge.pw_strongbit_k03_bodies_taken_refused.main.body.getD i (.Pass ⟨0, 0, 0, 0⟩)
abbrev sBadEnd_init : Stmt := inClass (top 2) 0
theorem scBadEnd_init : FnScope ["self", "part", "row"] ["self", "part", "row"] (defScope sBadEnd_init) := ⟨rfl, rfl, rfl, by decide +kernel, rfl, by decide +kernel, by decide +kernel⟩
abbrev sis_number : Stmt := top 6
theorem scis_number : FnScope ["value"] ["value"] (defScope sis_number) := ⟨rfl, rfl, rfl, by decide +kernel, rfl, by decide +kernel, by decide +kernel⟩
abbrev sis_follower : Stmt := top 7
theorem scis_follower : FnScope ["value", "size", "words"] ["value", "size", "words"] (defScope sis_follower) := ⟨rfl, rfl, rfl, by decide +kernel, rfl, by decide +kernel, by decide +kernel⟩
abbrev sis_row : Stmt := top 8
theorem scis_row : FnScope ["value", "size", "words", "put", "on_strong", "on_weak"] ["value", "size", "words"] (defScope sis_row) := ⟨rfl, rfl, rfl, by decide +kernel, rfl, by decide +kernel, by decide +kernel⟩
abbrev sreached : Stmt := top 9
theorem screached : FnScope ["rows", "begin", "found", "ahead", "place", "follower"] ["rows", "begin"] (defScope sreached) := ⟨rfl, rfl, rfl, by decide +kernel, rfl, by decide +kernel, by decide +kernel⟩
abbrev scheck_machine : Stmt := top 13
theorem sccheck_machine : FnScope ["part", "machine", "fewest", "most", "words", "index", "row"] ["part", "machine", "fewest", "most", "words"] (defScope scheck_machine) := ⟨rfl, rfl, rfl, by decide +kernel, rfl, by decide +kernel, by decide +kernel⟩
abbrev snumbered_rows : Stmt := top 14
theorem scnumbered_rows : FnScope ["part", "machine", "index", "row"] ["part", "machine"] (defScope snumbered_rows) := ⟨rfl, rfl, rfl, by decide +kernel, rfl, by decide +kernel, by decide +kernel⟩
abbrev sEnd_init : Stmt := inClass (top 15) 1
theorem scEnd_init : FnScope ["self", "hearer", "sender"] ["self", "hearer", "sender"] (defScope sEnd_init) := ⟨rfl, rfl, rfl, by decide +kernel, rfl, by decide +kernel, by decide +kernel⟩
abbrev sL_bag : Stmt := top 17
theorem scL_bag : FnScope ["_law_script", "_law_at", "_law_cell", "_law_great"] ["_law_script", "_law_at"] (defScope sL_bag) := ⟨rfl, rfl, rfl, by decide +kernel, rfl, by decide +kernel, by decide +kernel⟩
abbrev sL_take : Stmt := top 18
theorem scL_take : FnScope ["_law_bag_here", "_law_many", "_law_digit", "_law_mixed_here"] ["_law_bag_here", "_law_many"] (defScope sL_take) := ⟨rfl, rfl, rfl, by decide +kernel, rfl, by decide +kernel, by decide +kernel⟩
abbrev sL_place : Stmt := top 19
theorem scL_place : FnScope ["_law_bag_here", "_law_many", "_law_way"] ["_law_bag_here", "_law_many"] (defScope sL_place) := ⟨rfl, rfl, rfl, by decide +kernel, rfl, by decide +kernel, by decide +kernel⟩
abbrev sL_ways : Stmt := top 20
theorem scL_ways : FnScope ["_law_rows", "_law_found", "_law_roads", "_law_step", "_law_later", "_law_way", "_law_place_here"] ["_law_rows"] (defScope sL_ways) := ⟨rfl, rfl, rfl, by decide +kernel, rfl, by decide +kernel, by decide +kernel⟩
abbrev sL_told : Stmt := top 21
theorem scL_told : FnScope ["_law_hearer", "_law_sender", "e"] ["_law_hearer", "_law_sender"] (defScope sL_told) := ⟨rfl, rfl, rfl, by decide +kernel, rfl, by decide +kernel, by decide +kernel⟩
abbrev sL_chain : Stmt := top 22
theorem scL_chain : FnScope ["_law_order", "_law_last", "_law_rows", "_law_at", "_law_index"] ["_law_order", "_law_last"] (defScope sL_chain) := ⟨rfl, rfl, rfl, by decide +kernel, rfl, by decide +kernel, by decide +kernel⟩
abbrev sL_mixed : Stmt := top 23
theorem scL_mixed : FnScope ["_law_bag_here", "_law_many", "_law_left", "_law_found"] ["_law_bag_here", "_law_many"] (defScope sL_mixed) := ⟨rfl, rfl, rfl, by decide +kernel, rfl, by decide +kernel, by decide +kernel⟩
abbrev slaw : Stmt := top 24
theorem sclaw : FnScope ["_law_script", "_law_tail", "_law_k", "_law_bag_here", "_law_turn", "_law_many", "_law_rows", "_law_due", "_law_order", "_law_long", "_law_found", "_law_at"] ["_law_script"] (defScope slaw) := ⟨rfl, rfl, rfl, by decide +kernel, rfl, by decide +kernel, by decide +kernel⟩
/-- the names that the top leaves to the built-in ones -/
structure Txt (K : PySem.W.Frag) (mg : Str → Option Value) : Prop where
  b_int : mg "int" = none
  b_len : mg "len" = none
  b_abs : mg "abs" = none
  b_isinstance : mg "isinstance" = none
  b_bool : mg "bool" = none
  b_str : mg "str" = none
  b_tuple : mg "tuple" = none
  b_list : mg "list" = none
  b_enumerate : mg "enumerate" = none
  b_range : mg "range" = none
  b_max : mg "max" = none
  b_min : mg "min" = none
end K03

set_option Elab.async false
set_option linter.all false
set_option maxRecDepth 100000
set_option maxHeartbeats 4000000
namespace K03
open PySem L2 Sb
variable {P : Program} {w : World} {K : PySem.W.Frag} {mg : Str → Option Value} {base : Heap}
theorem ok_take {f : Addr} {fd : FuncData} (F : Fun K "_law_take" "_law_take" sL_take f fd) (T : Txt K mg) : FnOk P w K mg base CX0 1 f fd ["_law_bag_here", "_law_many"] spTake := by
  refine F.ok scL_take (fun vs H Q E h => ?_) (fun cdv A outer s H vs Q E hr h => ?_)
  · obtain ⟨p, n, m, rfl, _⟩ := h
    rfl
  · obtain ⟨p, n, m, rfl, ⟨g, b, c, e, g0, b0, b1, c0, c1⟩, hn, m0, m1, k⟩ := h
    refine ⟨_, (pss_cons (ps_if (pt_cmpR op_gt (pe_ix ix_list (pv 0) pe_int (fun _ _ => rfl)) pe_int (nomark _)) (pss_cons (ps_set (i := 2) scL_take.nd rfl (Or.inl rfl) (pe_op op_mod (pe_callTy call_int1 (by rfl) T.b_int (by decide +kernel) (pa_cons (pe_ix ix_list (pv 0) pe_int (fun _ _ => rfl)) pa_nil)) (pv 1)))
  (pss_cons (ps_asg (pe_op op_fdiv (pe_ix ix_list (pv 0) pe_int (fun _ _ => rfl)) (pv 1)) (pg_sub (pv 0) pe_int set_list))
  (pss_one (ps_ret (pv 2))))) pss_nil)
  (pss_cons (ps_asg (pe_op op_add (pe_ix ix_list (pv 0) pe_int (fun _ _ => rfl)) pe_int) (pg_sub (pv 0) pe_int set_list))
  (pss_cons (ps_set (i := 3) scL_take.nd rfl (Or.inl rfl) (pe_op op_mod (pe_callTy call_int1 (by rfl) T.b_int (by decide +kernel) (pa_cons (pe_op Sb.op_powB (pe_op op_add (pe_ix ix_list (pv 0) pe_int (fun _ _ => rfl)) (pe_op op_mul pe_int (pe_ix ix_list (pv 0) pe_int (fun _ _ => rfl)))) pe_int) pa_nil)) pe_int))
  (pss_cons (ps_set (i := 3) scL_take.nd rfl (Or.inl rfl) (pe_op op_mod (pe_callTy call_int1 (by rfl) T.b_int (by decide +kernel) (pa_cons (pe_op Sb.op_powB (pe_op op_add (pv 3) (pe_op op_mul pe_int (pe_ix ix_list (pv 0) pe_int (fun _ _ => rfl)))) pe_int) pa_nil)) pe_int))
  (pss_one (ps_ret (pe_op op_mod (pe_op op_fdiv (pv 3) pe_int) (pv 1)))))))), ?_⟩
    refine ⟨_, rfl, p, _, 0, _, rfl, rfl, SqL.of e, at3.1, _, _, rfl, rfl, _, rfl, ?_⟩
    refine ite2 (fun hg => ?_) (fun hg => ?_)
    · refine ⟨_, rfl, p, _, 0, _, rfl, rfl, SqL.of e, at3.1, .inl ⟨_, rfl, ?_⟩⟩
      have gp : 0 < g := of_decide_eq_true hg
      refine ⟨_, rfl, _, _, rfl, rfl, m0, ?_⟩
      refine ⟨_, rfl, p, _, 0, _, rfl, rfl, SqL.of e, at3.1, _, rfl, _, _, rfl, rfl, ⟨m0, m1⟩, _, rfl, p, _, 0, 0, rfl, rfl, e, rfl, ?_⟩
      refine ⟨_, rfl, k _ _ (Int.emod_nonneg _ (by omega)) (Int.emod_lt_of_pos _ m0) ⟨g / m, b, c, upd_same, Int.ediv_nonneg g0 (by omega), b0, b1, c0, by omega⟩ But.upd⟩
    · refine ⟨_, rfl, p, _, 2, _, rfl, rfl, SqL.of e, at3.2.2, _, _, rfl, rfl, _, rfl, p, _, 2, 2, rfl, rfl, e, rfl, ?_⟩
      generalize eh : upd H p _ = H1
      have e1 : H1 p = some (.lst [.int g, .int b, .int (c + 1)]) := by rw [← eh]; exact upd_same
      have s1 : But p H H1 := by rw [← eh]; exact But.upd
      have z1 : (b + 1000003 * (c + 1)).natAbs < 2 ^ 101 := by
        have : (2 : Int) ^ 100 = 1267650600228229401496703205376 := by decide
        have : (2 : Nat) ^ 101 = 2535301200456458802993406410752 := by decide
        omega
      refine ⟨_, rfl, p, _, 1, _, rfl, rfl, SqL.of e1, at3.2.1, _, rfl, p, _, 2, _, rfl, rfl, SqL.of e1, at3.2.2, _, _, rfl, rfl, .inl ⟨by decide, by decide⟩, _, _, rfl, rfl, _, _, rfl, rfl, pow_fits z1 (by decide) (by decide), .inl ⟨_, rfl, ?_⟩⟩
      refine ⟨_, _, rfl, rfl, (by show (0 : Int) < 2305843009213693921; decide), ?_⟩
      have z2 : ((b + 1000003 * (c + 1)) ^ Int.toNat 3 % 2305843009213693921 + 179424673 * (c + 1)).natAbs < 2 ^ 63 := by
        generalize eu : (b + 1000003 * (c + 1)) ^ Int.toNat 3 % 2305843009213693921 = u
        have u0 : 0 ≤ u := by rw [← eu]; exact Int.emod_nonneg _ (by decide)
        have u1 : u < 2305843009213693921 := by rw [← eu]; exact Int.emod_lt_of_pos _ (by decide)
        have : (2 : Nat) ^ 63 = 9223372036854775808 := by decide
        omega
      refine ⟨_, rfl, _, rfl, p, _, 2, _, rfl, rfl, SqL.of e1, at3.2.2, _, _, rfl, rfl, .inl ⟨by decide, by decide⟩, _, _, rfl, rfl, _, _, rfl, rfl, pow_fits z2 (by decide) (by decide), .inl ⟨_, rfl, ?_⟩⟩
      refine ⟨_, _, rfl, rfl, (by show (0 : Int) < 2305843009213693951; decide), ?_⟩
      refine ⟨_, rfl, _, _, rfl, rfl, ⟨by decide, by decide⟩, _, rfl, _, _, rfl, rfl, m0, ?_⟩
      exact k _ _ (Int.emod_nonneg _ (by omega)) (Int.emod_lt_of_pos _ m0) ⟨g, b, c + 1, e1, g0, b0, b1, by omega, by omega⟩ s1
end K03

set_option Elab.async false
set_option linter.all false
set_option maxRecDepth 100000
set_option maxHeartbeats 4000000
namespace K03
open PySem L2 Sb
variable {P : Program} {w : World} {K : PySem.W.Frag} {mg : Str → Option Value} {base : Heap}
/-- bag(script, at): a new bag -/
def spBag (K : PySem.W.Frag) : Sp := fun vs H Q _ => ∃ (a : Addr) (ns : List Int) (i : Nat), vs = [.ref a, .int i] ∧ SqL K H a (ns.map V.int) ∧ i ≤ 100 ∧ ns.length ≤ 63 ∧
  ∀ (H' : Hp) (p : Addr), H p = none → Same H H' → Bag H' p 0 → Q (.ref p) H'
theorem ok_bag {f : Addr} {fd : FuncData} (F : Fun K "_law_bag" "_law_bag" sL_bag f fd) (T : Txt K mg) : FnOk P w K mg base CX0 1 f fd ["_law_script", "_law_at"] (spBag K) := by
  refine F.ok scL_bag (fun vs H Q E h => ?_) (fun cdv A outer s H vs Q E hr h => ?_)
  · obtain ⟨a, ns, i, rfl, _⟩ := h
    rfl
  · obtain ⟨a, ns, i, rfl, hS, hi, hn, k⟩ := h
    refine ⟨_, (C8.pss_cut (ps_set (i := 2) scL_bag.nd rfl (Or.inl rfl) (pe_ifExp (pt_cmpR op_lt (pv 1) (pe_callB call_len_seq (by rfl) T.b_len (by decide +kernel) (pa_cons (pv 0) pa_nil)) (nomark _)) (pe_ix ix_list (pv 0) (pv 1) (fun _ _ => rfl)) pe_int))
  (C8.pss_cut (ps_set (i := 3) scL_bag.nd rfl (Or.inl rfl) (pe_ifExp (pt_cmpR op_ge (pe_callB call_abs (by rfl) T.b_abs (by decide +kernel) (pa_cons (pv 2) pa_nil)) (pe_op Sb.op_powB pe_int pe_int) (nomark _)) (pe_callB call_abs (by rfl) T.b_abs (by decide +kernel) (pa_cons (pv 2) pa_nil)) pe_int))
  (pss_one (ps_ret (pe_lst (pa_cons (pv 3) (pa_cons (pe_op op_add (pe_op op_add (pe_op op_mul (pe_op op_mod (pe_callTy call_int1 (by rfl) T.b_int (by decide +kernel) (pa_cons (pv 2) pa_nil)) pe_int) pe_int) (pe_op op_mul pe_int (pv 1))) pe_int) (pa_cons pe_int pa_nil)))))))), ?_⟩
    refine ⟨fun σ' H' => ∃ z : Int, σ' = [some (.ref a), some (.int i), some (.int z), none] ∧ H' = H, ?_, ?_⟩
    · refine ⟨_, rfl, _, rfl, a, _, rfl, .inl hS, _, _, rfl, rfl, _, rfl, ?_⟩
      refine ite2 (fun hc => ?_) (fun hc => ?_)
      · have hc' : (i : Int) < ((ns.map V.int).length : Nat) := of_decide_eq_true hc
        have hl : i < ns.length := by
          rw [List.length_map] at hc'
          omega
        exact ⟨_, rfl, _, rfl, a, _, _, .int ns[i], rfl, rfl, hS, atI_nat (by simp [hl]), ns[i], rfl, rfl⟩
      · exact ⟨0, rfl, rfl⟩
    · rintro σ' H' ⟨z, rfl, rfl⟩
      refine ⟨fun σ' H1 => ∃ g : Int, 0 ≤ g ∧ σ' = [some (.ref a), some (.int i), some (.int z), some (.int g)] ∧ H1 = H', ?_, ?_⟩
      · refine ⟨_, rfl, _, rfl, _, _, rfl, rfl, pow_fits (k := 10) (by decide) (by decide) (by decide), _, _, rfl, rfl, _, rfl, ?_⟩
        refine ite2 (fun hc => ?_) (fun hc => ?_)
        · exact ⟨_, rfl, _, rfl, _, by split <;> omega, rfl, rfl⟩
        · exact ⟨0, by omega, rfl, rfl⟩
      · rintro σ' H1 ⟨g, hg, rfl, rfl⟩
        have y0 : 0 ≤ z % 2305843009213693951 := Int.emod_nonneg _ (by decide)
        have y1 : z % 2305843009213693951 < 2305843009213693951 := Int.emod_lt_of_pos _ (by decide)
        refine ⟨_, rfl, _, rfl, .inl ⟨_, rfl, _, _, rfl, rfl, (by show (0 : Int) < 2305843009213693951; decide), _, _, rfl, rfl, .inr ⟨by decide, by decide⟩, _, rfl, _, _, rfl, rfl, .inl ⟨by decide, by decide⟩, _, _, rfl, rfl, _, _, rfl, rfl, (by show 3 ≤ sizeLine; decide), fun p hp => ?_⟩⟩
        refine k _ p hp (Sb.Same.upd hp) ⟨g, _, 0, upd_same, hg, ?_, ?_, by omega, by omega⟩
        · generalize z % 2305843009213693951 = y at *
          omega
        · have : (2 : Int) ^ 100 = 1267650600228229401496703205376 := by decide
          generalize z % 2305843009213693951 = y at *
          omega

end K03

set_option Elab.async false
set_option linter.all false
set_option maxRecDepth 100000
set_option maxHeartbeats 4000000
namespace K03
open PySem L2 Sb
variable {P : Program} {w : World} {K : PySem.W.Frag} {mg : Str → Option Value} {base : Heap}
/-- place(bag, many): what follows in a row -/
def spPlace : Sp := fun vs H Q _ => ∃ (p : Addr) (n many : Nat), vs = [.ref p, .int many] ∧ Bag H p n ∧ n < 1000000 ∧ 0 < many ∧ many ≤ 1000 ∧
  ∀ (H' : Hp) (x : Pl), x.Ok many ["taken", "lost"] → Bag H' p (n + 1) → But p H H' → Q x.v H'
theorem ok_place {f fT : Addr} {fd fdT : FuncData} (F : Fun K "_law_place" "_law_place" sL_place f fd) (T : Txt K mg) (G__law_take : Fx P w K mg base CX0 1 "_law_take" fT fdT ["_law_bag_here", "_law_many"] spTake) :
    FnOk P w K mg base CX0 2 f fd ["_law_bag_here", "_law_many"] spPlace := by
  refine F.ok scL_place (fun vs H Q E h => ?_) (fun cdv A outer s H vs Q E hr h => ?_)
  · obtain ⟨p, n, m, rfl, _⟩ := h
    rfl
  · obtain ⟨p, n, m, rfl, hB, hn, m0, m1, k⟩ := h
    refine ⟨_, (pss_cons (ps_set (i := 2) scL_place.nd rfl (Or.inl rfl) (pe_call G__law_take.ok (hr.mono (by decide)) rfl G__law_take.mg G__law_take.kp G__law_take.bd .nil pass0 (pa_cons (pv 0) (pa_cons (pe_op op_add (pv 1) pe_int) pa_nil))))
  (pss_one (ps_ret (pe_ifExp (pt_cmpR op_lt (pv 2) (pv 1) (nomark _)) (pv 2) (pe_ix ix_list (pe_lst (pa_cons pe_str (pa_cons pe_str (pa_cons pe_str pa_nil)))) (pe_op op_sub (pv 2) (pv 1)) (fun _ _ => rfl)))))), ?_⟩
    refine ⟨_, rfl, _, rfl, _, _, rfl, rfl, p, n, _, rfl, hB, by omega, by omega, by omega, fun H1 d d0 d1 hB1 s1 => ?_⟩
    refine ⟨_, rfl, _, rfl, _, _, rfl, rfl, _, rfl, ?_⟩
    refine ite2 (fun hc => ?_) (fun hc => ?_)
    · have hd : d < (m : Int) := of_decide_eq_true hc
      obtain ⟨j, rfl⟩ : ∃ j : Nat, d = (j : Int) := ⟨d.toNat, by omega⟩
      exact ⟨_, rfl, k H1 (.num j) (by show j < m; omega) hB1 s1⟩
    · have hd : ¬ d < (m : Int) := fun z => hc (decide_eq_true z)
      obtain ⟨j, rfl⟩ : ∃ j : Nat, d = (m : Int) + (j : Int) := ⟨(d - m).toNat, by omega⟩
      refine ⟨(by show 3 ≤ sizeLine; decide), fun q hq => ?_⟩
      have s2 : Same H1 (upd H1 q (.lst [.str "lost", .str "lost", .str "taken"])) := Sb.Same.upd hq
      have sub : (m : Int) + (j : Int) - (m : Int) = (j : Int) := by omega
      have fin : ∀ z : Str, ([V.str "lost", .str "lost", .str "taken"] : List V)[j]? = some (.str z) → z ∈ (["taken", "lost"] : List Str) → 
          ∃ v, ([V.str "lost", .str "lost", .str "taken"] : List V)[j]? = some v ∧ Q v (upd H1 q (.lst [.str "lost", .str "lost", .str "taken"])) := fun z hz hm =>
        ⟨_, hz, k _ (.word z) hm (hB1.same s2) (s1.trans (But.same s2))⟩
      have hj : j < 3 := by omega
      obtain ⟨v, hv, hQ⟩ : ∃ v, ([V.str "lost", .str "lost", .str "taken"] : List V)[j]? = some v ∧ Q v (upd H1 q (.lst [.str "lost", .str "lost", .str "taken"])) := by
        match j, hj with
        | 0, _ => exact fin "lost" rfl (by decide +kernel)
        | 1, _ => exact fin "lost" rfl (by decide +kernel)
        | 2, _ => exact fin "taken" rfl (by decide +kernel)
      refine ⟨_, rfl, _, rfl, _, _, rfl, rfl, q, _, _, v, rfl, rfl, SqL.of upd_same, ?_, hQ⟩
      rw [sub]
      exact atI_nat hv

end K03

set_option Elab.async false
set_option linter.all false
set_option maxRecDepth 100000
set_option maxHeartbeats 4000000
namespace K03
open PySem L2 Sb
variable {P : Program} {w : World} {K : PySem.W.Frag} {mg : Str → Option Value} {base : Heap}
/-- is_number(x): x an int or a text -/
def spNum : Sp := fun vs H Q _ => ∃ x : Pl, vs = [x.v] ∧ Q (.bl (match x with | .num _ => true | .word _ => false)) H
theorem ok_num {f : Addr} {fd : FuncData} (F : Fun K "is_number" "is_number" sis_number f fd) (T : Txt K mg) : FnOk P w K mg base CX0 1 f fd ["value"] spNum := by
  refine F.ok scis_number (fun vs H Q E h => ?_) (fun cdv A outer s H vs Q E hr h => ?_)
  · obtain ⟨x, rfl, _⟩ := h
    rfl
  · obtain ⟨x, rfl, k⟩ := h
    refine ⟨_, (pss_one (ps_ret (pe_and (pe_callB call_isi (by rfl) T.b_isinstance (by decide +kernel) (pa_cons (pv 0) (pa_cons (pe_bltn (v := .ty "int") (by rfl) T.b_int (by decide +kernel) rfl) pa_nil))) (pe_one (pe_not (pe_callB call_isi (by rfl) T.b_isinstance (by decide +kernel) (pa_cons (pv 0) (pa_cons (pe_bltn (v := .ty "bool") (by rfl) T.b_bool (by decide +kernel) rfl) pa_nil)))))))), ?_⟩
    cases x with
    | num n =>
      refine ⟨_, rfl, _, _, _, _, true, rfl, .ty _, .base (.int _), kit_ty (by decide +kernel), true, rfl, iteT ?_⟩
      exact ⟨_, rfl, _, _, _, _, false, rfl, .ty _, .base (.int _), kit_ty (by decide +kernel), false, rfl, k⟩
    | word z =>
      exact ⟨_, rfl, _, _, _, _, false, rfl, .ty _, .base (.str _), kit_ty (by decide +kernel), false, rfl, iteF k⟩

end K03

set_option Elab.async false
set_option linter.all false
set_option maxRecDepth 100000
set_option maxHeartbeats 4000000
namespace K03
open PySem L2 Sb
variable {P : Program} {w : World} {K : PySem.W.Frag} {mg : Str → Option Value} {base : Heap}
/-- is_follower(x, size, words) -/
def spFol (K : PySem.W.Frag) : Sp := fun vs H Q _ => ∃ (x : Pl) (n : Nat) (wa : Addr) (ws : List Str), vs = [x.v, .int n, .ref wa] ∧ SqT K H wa (ws.map V.str) ∧ Q (.bl (decide (x.Ok n ws))) H
theorem inV_str {z : Str} {ws : List Str} : inV (.str z) (ws.map V.str) = decide (z ∈ ws) := by
  unfold inV
  induction ws with
  | nil => rfl
  | cons y r ih =>
    rw [List.map_cons, List.any_cons, ih]
    show ((y == z) || decide (z ∈ r)) = decide (z ∈ y :: r)
    by_cases h : y = z
    · subst h
      simp
    · have h1 : (y == z) = false := by simpa using h
      have h2 : ¬ z = y := fun e => h e.symm
      rw [h1, Bool.false_or]
      simp [h2]
theorem flat_strs : ∀ ws : List Str, (ws.map V.str).all flatV = true
  | [] => rfl
  | _ :: r => flat_strs r
theorem ok_fol {f fN : Addr} {fd fdN : FuncData} (F : Fun K "is_follower" "is_follower" sis_follower f fd) (T : Txt K mg) (G_is_number : Fx P w K mg base CX0 1 "is_number" fN fdN ["value"] spNum) :
    FnOk P w K mg base CX0 2 f fd ["value", "size", "words"] (spFol K) := by
  refine F.ok scis_follower (fun vs H Q E h => ?_) (fun cdv A outer s H vs Q E hr h => ?_)
  · obtain ⟨x, n, wa, ws, rfl, _⟩ := h
    rfl
  · obtain ⟨x, n, wa, ws, rfl, hw, k⟩ := h
    refine ⟨_, (pss_cons (ps_if (pt_val (pe_callB call_isi (by rfl) T.b_isinstance (by decide +kernel) (pa_cons (pv 0) (pa_cons (pe_bltn (v := .ty "str") (by rfl) T.b_str (by decide +kernel) rfl) pa_nil)))) (pss_one (ps_ret (pe_cmpR op_in_seq (pv 0) (pv 2) (by rfl)))) pss_nil)
  (pss_one (ps_ret (pe_and (pe_call G_is_number.ok (hr.mono (by decide)) rfl G_is_number.mg G_is_number.kp G_is_number.bd .nil pass0 (pa_cons (pv 0) pa_nil)) (pe_one (pe_chain op_le op_lt pe_int (pv 0) (pv 1))))))), ?_⟩
    cases x with
    | word z =>
      refine ⟨_, rfl, _, _, _, _, true, rfl, .ty _, .base (.str _), kit_ty (by decide +kernel), true, rfl, iteT ?_⟩
      refine ⟨_, rfl, _, rfl, wa, _, rfl, .inr hw, rfl, flat_strs ws, ?_⟩
      show Q (.bl (inV (.str z) (ws.map V.str))) H
      rw [inV_str]
      exact k
    | num m =>
      refine ⟨_, rfl, _, _, _, _, false, rfl, .ty _, .base (.int _), kit_ty (by decide +kernel), false, rfl, iteF ?_⟩
      refine ⟨_, rfl, .num m, rfl, true, rfl, iteT ?_⟩
      refine ⟨_, rfl, _, _, rfl, rfl, true, ?_, iteT ?_⟩
      · exact congrArg V.bl (decide_eq_true (by show (0 : Int) ≤ (m : Int); omega))
      · refine ⟨_, rfl, _, _, rfl, rfl, ?_⟩
        have e : decide ((m : Int) < (n : Int)) = decide ((Pl.num m).Ok n ws) := by
          show decide ((m : Int) < (n : Int)) = decide (m < n)
          rw [Bool.eq_iff_iff]
          simp
        show Q (.bl (decide ((m : Int) < (n : Int)))) H
        rw [e]
        exact k

end K03

set_option Elab.async false
set_option linter.all false
set_option maxRecDepth 100000
set_option maxHeartbeats 4000000
namespace K03
open PySem L2 Sb
variable {P : Program} {w : World} {K : PySem.W.Frag} {mg : Str → Option Value} {base : Heap}
/-- is_row(v, size, words) of a row -/
def spRow (K : PySem.W.Frag) : Sp := fun vs H Q _ => ∃ (v : V) (r : Row) (n : Nat) (wa : Addr) (ws : List Str), vs = [v, .int n, .ref wa] ∧ RowAt H v r ∧ SqT K H wa (ws.map V.str) ∧
  ∀ H', Same H H' → Q (.bl (decide (r.Ok n ws))) H'
theorem ok_row {f fN fF : Addr} {fd fdN fdF : FuncData} (F : Fun K "is_row" "is_row" sis_row f fd) (T : Txt K mg) (G_is_number : Fx P w K mg base CX0 1 "is_number" fN fdN ["value"] spNum)
    (G_is_follower : Fx P w K mg base CX0 2 "is_follower" fF fdF ["value", "size", "words"] (spFol K)) :
    FnOk P w K mg base CX0 3 f fd ["value", "size", "words"] (spRow K) := by
  refine F.ok scis_row (fun vs H Q E h => ?_) (fun cdv A outer s H vs Q E hr h => ?_)
  · obtain ⟨v, r, n, wa, ws, rfl, _⟩ := h
    rfl
  · obtain ⟨v, r, n, wa, ws, rfl, ⟨a, rfl, ha⟩, hw, k⟩ := h
    refine ⟨_, (pss_cons (ps_if (PW.pt (pw_or (pt_not (pt_val (pe_callB call_isi (by rfl) T.b_isinstance (by decide +kernel) (pa_cons (pv 0) (pa_cons (pe_bltn (v := .ty "tuple") (by rfl) T.b_tuple (by decide +kernel) rfl) pa_nil))))) (pw_or1 (pt_cmpR op_ne (pe_callB call_len_seq (by rfl) T.b_len (by decide +kernel) (pa_cons (pv 0) pa_nil)) pe_int (nomark _))))) (pss_one (ps_ret pe_bl)) pss_nil)
  (pss_cons (ps_asg (pv 0) (pg_tup rfl (pgs_cons (pg_name (i := 3) scis_row.nd rfl (Or.inl rfl)) (pgs_cons (pg_name (i := 4) scis_row.nd rfl (Or.inl rfl)) (pgs_cons (pg_name (i := 5) scis_row.nd rfl (Or.inl rfl)) pgs_nil)))))
  (pss_cons (ps_if (PW.pt (pw_or (pt_not (pt_val (pe_call G_is_number.ok (hr.mono (by decide)) rfl G_is_number.mg G_is_number.kp G_is_number.bd .nil pass0 (pa_cons (pv 3) pa_nil)))) (pw_or1 (pt_cmpR op_notIn_seq (pv 3) (pe_tup (pa_cons pe_int (pa_cons pe_int pa_nil))) (by rfl))))) (pss_one (ps_ret pe_bl)) pss_nil)
  (pss_one (ps_ret (pe_and (pe_call G_is_follower.ok (hr.mono (by decide)) rfl G_is_follower.mg G_is_follower.kp G_is_follower.bd .nil pass0 (pa_cons (pv 4) (pa_cons (pv 1) (pa_cons (pv 2) pa_nil)))) (pe_one (pe_call G_is_follower.ok (hr.mono (by decide)) rfl G_is_follower.mg G_is_follower.kp G_is_follower.bd .nil pass0 (pa_cons (pv 5) (pa_cons (pv 1) (pa_cons (pv 2) pa_nil))))))))))), ?_⟩
    refine ⟨_, rfl, _, _, _, _, true, rfl, .ty _, .base (.tup ha), kit_ty (by decide +kernel), true, rfl, iteF ?_⟩
    refine ⟨_, rfl, a, _, rfl, .inr (SqT.of ha), ?_⟩
    refine ⟨rfl, _, rfl, iteNS rfl ?_⟩
    refine ⟨_, rfl, a, _, rfl, SqT.of ha, rfl, _, _, rfl, _, _, rfl, _, _, rfl, rfl, ?_⟩
    refine ⟨_, rfl, .num r.put, rfl, true, rfl, iteF ?_⟩
    refine ⟨_, rfl, (by show 2 ≤ sizeLine; decide), fun p hp => ?_⟩
    generalize eh : upd H p _ = H1
    have s1 : Same H H1 := by rw [← eh]; exact Sb.Same.upd hp
    have ep : H1 p = some (.tup [.int 0, .int 1]) := by rw [← eh]; exact upd_same
    refine ⟨p, _, rfl, .inr (SqT.of ep), rfl, rfl, ?_⟩
    have ein : inV (V.int (r.put : Int)) [V.int 0, V.int 1] = decide (r.put = 0 ∨ r.put = 1) := by
      show (((0 : Int) == (r.put : Int)) || (((1 : Int) == (r.put : Int)) || false)) = _
      rw [Bool.eq_iff_iff]
      simp
      omega
    by_cases hput : r.put = 0 ∨ r.put = 1
    · rw [decide_eq_true hput] at ein
      refine ⟨false, congrArg (fun b => V.bl (!b)) ein, iteF ?_⟩
      have hw1 := sqT_same s1 hw
      refine ⟨_, rfl, _, rfl, _, rfl, r.a, n, wa, ws, rfl, hw1, _, rfl, ?_⟩
      refine ite2 (fun hc => ?_) (fun hc => ?_)
      · have ha1 : r.a.Ok n ws := of_decide_eq_true hc
        refine ⟨_, rfl, _, rfl, _, rfl, r.b, n, wa, ws, rfl, hw1, ?_⟩
        have e : decide (r.b.Ok n ws) = decide (r.Ok n ws) := by
          rw [Bool.eq_iff_iff]
          simp [Row.Ok, hput, ha1]
        rw [e]
        exact k _ s1
      · have ha1 : ¬ r.a.Ok n ws := fun z => hc (decide_eq_true z)
        have e : false = decide (r.Ok n ws) := by
          rw [Bool.eq_iff_iff]
          simp [Row.Ok, ha1]
        rw [e]
        exact k _ s1
    · rw [decide_eq_false hput] at ein
      refine ⟨true, congrArg (fun b => V.bl (!b)) ein, iteT ?_⟩
      have e : false = decide (r.Ok n ws) := by
        rw [Bool.eq_iff_iff]
        simp only [Row.Ok, hput]
        simp
      show Q (V.bl false) _
      rw [e]
      exact k _ s1

end K03

set_option Elab.async false
set_option linter.all false
set_option maxRecDepth 100000
set_option maxHeartbeats 4000000
namespace K03
open PySem L2 Sb
variable {P : Program} {w : World} {K : PySem.W.Frag} {mg : Str → Option Value} {base : Heap}
/-- a list or a tuple -/
def SqE (K : PySem.W.Frag) (H : Hp) (a : Addr) (xs : List V) : Prop := SqL K H a xs ∨ SqT K H a xs
theorem SqE.same {H H' : Hp} {a : Addr} {xs : List V} (s : Same H H') (h : SqE K H a xs) : SqE K H' a xs := h.elim (fun z => .inl (s.seq z)) (fun z => .inr (sqT_same s z))
theorem SqE.ix {H : Hp} {a : Addr} {xs : List V} {i : Int} {v : V} {Q : VK} (h : SqE K H a xs) (e : atI xs i = some v) (q : Q v H) : rIx K (.ref a) (.int i) H Q :=
  h.elim (fun z => .inl ⟨a, _, _, v, rfl, rfl, z, e, q⟩) (fun z => .inr (.inl ⟨a, _, _, v, rfl, rfl, z, e, q⟩))
/-- reached(rows, begin): just what is led to, each once -/
def spReach (K : PySem.W.Frag) : Sp := fun vs H Q _ => ∃ (l : Addr) (b : Nat) (xs : List V) (rows : List Row) (ws : List Str), vs = [.ref l, .int b] ∧ SqE K H l xs ∧ RowsV H xs rows ∧ b < rows.length ∧ rows.length ≤ 1000 ∧
  (∀ r, r ∈ rows → r.Ok rows.length ws) ∧ ∀ (H' : Hp) (p : Addr) (ps : List Pl), Same H H' → H p = none → H' p = some (.lst (ps.map Pl.v)) → ps.Nodup → (∀ x, x ∈ ps ↔ Reach rows b x) → Q (.ref p) H'
def kvsOf (fs : List Pl) : List (Key × V) := fs.map fun x => (x.key, .bl true)
theorem val_of (p : Pl) : ∀ fs : List Pl, (valV (kvsOf fs) p.key).isSome = decide (p ∈ fs)
  | [] => by simp [kvsOf, valV_nil]
  | q :: r => by
    by_cases e : q.key = p.key
    · have e2 := Pl.key_inj e
      subst e2
      rw [show kvsOf (q :: r) = (q.key, V.bl true) :: kvsOf r from rfl, valV_pos rfl]
      simp
    · rw [show kvsOf (q :: r) = (q.key, V.bl true) :: kvsOf r from rfl, valV_neg e, val_of p r]
      have h : ¬ p = q := fun z => e (by rw [z])
      simp [h]
theorem ok_reach {f fN : Addr} {fd fdN : FuncData} (F : Fun K "reached" "reached" sreached f fd) (T : Txt K mg) (G_is_number : Fx P w K mg base CX0 1 "is_number" fN fdN ["value"] spNum) :
    FnOk P w K mg base CX0 2 f fd ["rows", "begin"] (spReach K) := by
  refine F.ok screached (fun vs H Q E h => ?_) (fun cdv A outer s H vs Q E hr h => ?_)
  · obtain ⟨l, b, xs, rows, ws, rfl, _⟩ := h
    rfl
  · obtain ⟨l, b, xs, rows, ws, rfl, hl, hR, hb, hsz, hok, k⟩ := h
    refine ⟨_, (pss_cons (ps_set (i := 2) screached.nd rfl (Or.inl rfl) (pe_disp (pps_cons (pv 1) pe_bl pps_nil) (by rfl) (by rfl) (fun z => by cases z) (by decide)))
  (pss_cons (ps_set (i := 3) screached.nd rfl (Or.inl rfl) (pe_lst (pa_cons (pv 1) pa_nil)))
  (pss_cons (ps_while PassesOwn.never (pt_truth (pv 3) (by intro _; rfl)) (pss_cons (ps_set (i := 4) screached.nd rfl (Or.inl rfl) (pe_bm0 PySem.F.plainAttrs_list PySem.F.slot_list_pop PySem.F.type_list_pop mt_pop (pv 3)))
  (pss_one (ps_for PassesOwn.never rfl (pi_tup (pe_slice sl_tup (pe_ix ix_seq (pv 0) (pv 4) (fun _ _ => rfl)) (po_some pe_int) po_none)) (pg_name (i := 5) screached.nd rfl (Or.inl rfl)) (pss_cons (ps_if (pt_cmp (pc_din (hu_of hr) (pv 5) (pv 2))) (pss_one ps_continue) pss_nil)
  (pss_cons (ps_dput (hu_of hr) (pv 2) (pv 5) pe_bl rfl)
  (pss_one (ps_if (pt_val (pe_call G_is_number.ok (hr.mono (by decide)) rfl G_is_number.mg G_is_number.kp G_is_number.bd .nil pass0 (pa_cons (pv 5) pa_nil))) (pss_one (ps_expr (pe_bm PySem.F.plainAttrs_list PySem.F.slot_list_append PySem.F.type_list_append mt_append (pv 3) (pa_cons (pv 5) pa_nil)))) pss_nil))))))))
  (pss_one (ps_ret (pe_callTy (call_list_dK rfl) (by rfl) T.b_list (by decide +kernel) (pa_cons (pv 2) pa_nil))))))), ?_⟩
    intro fa hfa
    refine ⟨_, rfl, upd_same, [(.inl b, .bl true)], rfl, (by show 1 ≤ 15; decide), ?_⟩
    generalize eh : upd (upd H fa _) fa _ = H1
    have s1 : Same H H1 := by rw [← eh, upd_upd]; exact Sb.Same.upd hfa
    have ef : H1 fa = some (.dK (kvsOf [.num b])) := by rw [← eh]; exact upd_same
    refine ⟨_, rfl, (by show 1 ≤ sizeLine; decide), fun aa haa => ?_⟩
    have haH : H aa = none := s1.free haa
    have nfa : fa ≠ aa := ne_of_none ef haa
    have big : ∀ n : Nat, n ≤ 100000 → n < sizeLine := fun n h => Nat.lt_of_le_of_lt h (by decide)
    refine ⟨fun m σ H' => ∃ (fs : List Pl) (as : List Nat) (v4 v5 : Option V), σ = [some (.ref l), some (.int b), some (.ref fa), some (.ref aa), v4, v5] ∧ Same H H' ∧ H' fa = some (.dK (kvsOf fs)) ∧
        H' aa = some (.lst (as.map fun (i : Nat) => V.int (i : Int))) ∧ RInv rows b fs as none ∧ m = 2 * (rows.length - nums fs) + as.length ∧ as.length ≤ nums fs ∧ fs.length + 2 * as.length ≤ 1 + 2 * nums fs,
      ⟨_, [.num b], [b], none, none, rfl, s1.trans (Sb.Same.upd haa), by rw [upd_ne nfa]; exact ef, upd_same, RInv.begin hb, rfl, Nat.le_refl 1, Nat.le_refl 3⟩, ?_⟩
    rintro m σ H2 ⟨fs, as, v4, v5, rfl, s2, f2, a2, I, rfl, c1, c2⟩
    refine ⟨_, rfl, _, .inl ⟨_, SqL.of a2, rfl⟩, ?_⟩
    refine ite2 (fun hc => ?_) (fun hc => ?_)
    · -- a row is taken
      obtain ⟨as', i, rfl⟩ : ∃ as' i, as = as' ++ [i] := by
        rcases List.eq_nil_or_concat as with z | ⟨as', i, z⟩
        · subst z
          exact absurd hc (by decide)
        · exact ⟨as', i, by simpa using z⟩
      have hi : i < rows.length := I.small i (I.sub i (by simp))
      obtain ⟨r, hr⟩ : ∃ r, rows[i]? = some r := ⟨rows[i], List.getElem?_eq_getElem hi⟩
      have hrok := hok r (List.mem_of_getElem? hr)
      obtain ⟨v, hv, hva⟩ := hR.get' i r hr
      obtain ⟨ra, rfl, hra⟩ := RowAt.same s2 hva
      refine ⟨fun σ' H' => ∃ m', m' < 2 * (rows.length - nums fs) + (as' ++ [i]).length ∧ ∃ (fs : List Pl) (as : List Nat) (v4 v5 : Option V), σ' = [some (.ref l), some (.int b), some (.ref fa), some (.ref aa), v4, v5] ∧ Same H H' ∧ H' fa = some (.dK (kvsOf fs)) ∧
        H' aa = some (.lst (as.map fun (i : Nat) => V.int (i : Int))) ∧ RInv rows b fs as none ∧ m' = 2 * (rows.length - nums fs) + as.length ∧ as.length ≤ nums fs ∧ fs.length + 2 * as.length ≤ 1 + 2 * nums fs, fun σ' H' z => z, ?_⟩
      have ed : ((as' ++ [i]).map fun (i : Nat) => V.int (i : Int)).dropLast = as'.map fun (i : Nat) => V.int (i : Int) := by
        rw [List.map_append, List.map_singleton, List.dropLast_concat]
      refine ⟨_, rfl, .inl ⟨rfl, _, SqL.of a2⟩, aa, _, .int i, rfl, rfl, a2, by simp, ?_⟩
      rw [ed]
      generalize eh3 : upd H2 aa _ = H3
      have a3 : H3 aa = some (.lst (as'.map fun (i : Nat) => V.int (i : Int))) := by rw [← eh3]; exact upd_same
      have s3 : Same H H3 := fun c o e => by rw [← eh3, upd_ne (ne_of_none e haH)]; exact s2 c o e
      have f3 : H3 fa = some (.dK (kvsOf fs)) := by rw [← eh3, upd_ne nfa]; exact f2
      have nra : ra ≠ aa := ne_of hra a2 (by intro z; cases z)
      have r3 : H3 ra = some (.tup r.vs) := by rw [← eh3, upd_ne nra]; exact hra
      refine ⟨_, rfl, _, rfl, (hl.same s3).ix (atI_nat hv) ⟨_, rfl, ?_⟩⟩
      refine ⟨ra, _, rfl, SqT.of r3, (by intro z; have z1 : HT.sIx 3 0 (some 1) = 0 := z.1; revert z1; decide), fun q hq => ?_⟩
      generalize eh4 : upd H3 q _ = H4
      have t4 : Same H3 H4 := by rw [← eh4]; exact Sb.Same.upd hq
      have q4 : H4 q = some (.tup [r.a.v, r.b.v]) := by rw [← eh4]; exact upd_same
      refine ⟨q, rfl, ⟨_, SqT.of q4⟩, for_tup (K := K) (a := q) (xs := [r.a.v, r.b.v]) (fun j σ' H' => ∃ (fs' : List Pl) (as'' : List Nat) (v5 : Option V), σ' = [some (.ref l), some (.int b), some (.ref fa), some (.ref aa), some (.int i), v5] ∧ Same H H' ∧
        H' fa = some (.dK (kvsOf fs')) ∧ H' aa = some (.lst (as''.map fun (i : Nat) => V.int (i : Int))) ∧ RInv rows b fs' as'' (some (i, j)) ∧ 2 * (rows.length - nums fs') + as''.length < 2 * (rows.length - nums fs) + (as' ++ [i]).length ∧
        as''.length + 1 ≤ nums fs' ∧ fs'.length + 2 * as''.length + 2 ≤ 1 + 2 * nums fs' + j ∧ H' q = some (.tup [r.a.v, r.b.v]))
        ⟨fs, as', v5, rfl, s3.trans t4, t4 _ _ f3, t4 _ _ a3, I.pop, by simp, by simpa using c1, by simp at c2; omega, q4⟩ (fun _ _ _ _ z => by
          obtain ⟨_, _, _, _, _, _, _, _, _, _, _, z⟩ := z
          exact SqT.of z) ?_ ?_⟩
      · rintro j x σ' H5 hx ⟨fs', as'', v5, rfl, s5, f5, a5, I5, m5, d1, d2, q5⟩
        obtain ⟨p, rfl, hp⟩ : ∃ p : Pl, x = p.v ∧ ((j = 0 ∧ p = r.a) ∨ (j = 1 ∧ p = r.b)) := by
          match j, hx with
          | 0, hx => exact ⟨r.a, (Option.some.inj hx).symm, .inl ⟨rfl, rfl⟩⟩
          | 1, hx => exact ⟨r.b, (Option.some.inj hx).symm, .inr ⟨rfl, rfl⟩⟩
          | j + 2, hx => simp at hx
        have nle : nums fs' ≤ rows.length := nums_le I5.nd I5.small
        refine ⟨_, rfl, _, rfl, fa, _, rfl, by rw [Pl.v_key]; exact DGet.k f5, _, rfl, ?_⟩
        rw [val_of]
        refine ite2 (fun hc => ?_) (fun hc => ?_)
        · have hf : p ∈ fs' := of_decide_eq_true hc
          exact ⟨fs', as'', _, rfl, s5, f5, a5, I5.skip hr hp hf, m5, d1, by omega, q5⟩
        · have hf : p ∉ fs' := fun z => hc (decide_eq_true z)
          have hsm : ∀ k, p = .num k → k < rows.length := fun k e => by
            rcases hp with ⟨_, e2⟩ | ⟨_, e2⟩
            · have := hrok.2.1
              rw [← e2, e] at this
              exact this
            · have := hrok.2.2
              rw [← e2, e] at this
              exact this
          have I6 := I5.add hr hp hf hsm
          have nle6 := nums_le I6.nd I6.small
          rw [nums_snoc] at nle6
          have en : valV (kvsOf fs') p.key = none := by
            have z := val_of p fs'
            rw [decide_eq_false hf] at z
            cases e : valV (kvsOf fs') p.key with
            | none => rfl
            | some y =>
              rw [e] at z
              cases z
          have ek : putK (kvsOf fs') p.key (.bl true) = kvsOf (fs' ++ [p]) := by
            rw [putK_new _ en]
            simp [kvsOf]
          refine ⟨_, rfl, _, rfl, fa, _, rfl, by rw [Pl.v_key]; exact DPut.k f5 (by rw [kvsOf, List.length_map]; exact big _ (by omega)), ?_⟩
          rw [ek]
          generalize eh6 : upd H5 fa _ = H6
          have f6 : H6 fa = some (.dK (kvsOf (fs' ++ [p]))) := by rw [← eh6]; exact upd_same
          have s6 : Same H H6 := fun c o e => by rw [← eh6, upd_ne (ne_of_none e hfa)]; exact s5 c o e
          have a6 : H6 aa = some (.lst (as''.map fun (i : Nat) => V.int (i : Int))) := by rw [← eh6, upd_ne (Ne.symm nfa)]; exact a5
          have nq : q ≠ fa := ne_of q5 f5 (by intro z; cases z)
          have nqa : q ≠ aa := ne_of q5 a5 (by intro z; cases z)
          have q6 : H6 q = some (.tup [r.a.v, r.b.v]) := by rw [← eh6, upd_ne nq]; exact q5
          refine ⟨_, rfl, p, rfl, _, rfl, ?_⟩
          cases p with
          | num z =>
            refine iteT ?_
            refine ⟨_, rfl, .inl ⟨rfl, _, SqL.of a6⟩, _, rfl, aa, _, _, rfl, rfl, a6, by rw [List.length_map]; exact big _ (by omega), ?_⟩
            refine ⟨fs' ++ [.num z], as'' ++ [z], _, rfl, fun c o e => by rw [upd_ne (ne_of_none e haH)]; exact s6 c o e, by rw [upd_ne nfa]; exact f6, by rw [upd_same]; simp [Pl.v], I6, ?_, ?_, ?_, by rw [upd_ne nqa]; exact q6⟩
            · rw [nums_snoc]
              simp at nle6 ⊢
              simp at m5
              omega
            · rw [nums_snoc]
              simp
              omega
            · rw [nums_snoc]
              simp
              omega
          | word z =>
            refine iteF ?_
            refine ⟨fs' ++ [.word z], as'', _, rfl, s6, f6, a6, I6, ?_, ?_, ?_, q6⟩
            · rw [nums_snoc]
              simpa using m5
            · rw [nums_snoc]
              simpa using d1
            · rw [nums_snoc]
              simp
              omega
      · rintro σ' H5 ⟨fs', as'', v5, rfl, s5, f5, a5, I5, m5, d1, d2, q5⟩
        have I6 : RInv rows b fs' as'' none := RInv.done I5
        have d2' : fs'.length + 2 * as''.length + 2 ≤ 1 + 2 * nums fs' + 2 := d2
        exact ⟨_, m5, fs', as'', _, _, rfl, s5, f5, a5, I6, rfl, by omega, by omega⟩
    · -- nothing is ahead
      have e0 : as = [] := by
        cases as with
        | nil => rfl
        | cons x r => exact absurd rfl hc
      subst e0
      refine ⟨_, rfl, fa, _, rfl, f2, fun q hq => ?_⟩
      have em : (kvsOf fs).map (fun kv => kV kv.1) = fs.map Pl.v := by
        simp [kvsOf, Pl.v_key]
      rw [em]
      exact k _ q fs (s2.trans (Sb.Same.upd hq)) (s2.free hq) upd_same I.nd I.all

end K03

set_option Elab.async false
set_option linter.all false
set_option maxRecDepth 100000
set_option maxHeartbeats 4000000
namespace K03
open PySem L2 Sb
variable {P : Program} {w : World} {K : PySem.W.Frag} {mg : Str → Option Value} {base : Heap}
theorem ok_bad {f C : Addr} {fd : FuncData} (F : Fun K "__init__" "BadEnd.__init__" sBadEnd_init f fd) (c : OexC K C) (n1 : PySem.W.findIn K (.ref C) "part" = some none) (n2 : PySem.W.findIn K (.ref C) "row" = some none) :
    FnOk P w K mg base CX0 1 f fd ["self", "part", "row"] (spBadInit C) := by
  refine F.ok scBadEnd_init (fun vs H Q E h => ?_) (fun cdv A outer s H vs Q E hr h => ?_)
  · obtain ⟨a, v1, v2, rfl, _⟩ := h
    rfl
  · obtain ⟨a, v1, v2, rfl, ea, k⟩ := h
    refine ⟨_, (pss_cons (ps_ost (pv 0) (pv 1))
  (pss_one (ps_ost (pv 0) (pv 2)))), ?_⟩
    refine ⟨_, rfl, _, rfl, a, C, rfl, c, n1, .inl ⟨ea, fun dx hdx ne => ?_⟩⟩
    refine ⟨_, rfl, _, rfl, a, C, rfl, c, n2, .inr ⟨dx, _, upd_same, by rw [upd_ne ne]; exact upd_same, (by show 1 ≤ 900; decide), ?_⟩⟩
    exact k _ dx (by rw [upd_ne (Ne.symm ne)]; exact upd_same) hdx ne upd_same fun b o e hb => by
      rw [upd_ne (ne_of_none e hdx), upd_ne hb, upd_ne (ne_of_none e hdx)]
      exact e

end K03

set_option Elab.async false
set_option linter.all false
set_option maxRecDepth 100000
set_option maxHeartbeats 4000000
namespace K03
open PySem L2 Sb
variable {P : Program} {w : World} {K : PySem.W.Frag} {mg : Str → Option Value} {base : Heap}
/-- check_machine(part, machine, fewest, most, words) of a list of rows -/
def spCheck (K : PySem.W.Frag) (C : Addr) : Sp := fun vs H Q E => ∃ (part : V) (l : Addr) (few most : Nat) (wa : Addr) (xs : List V) (rows : List Row) (ws : List Str), vs = [part, .ref l, .int few, .int most, .ref wa] ∧ H l = some (.lst xs) ∧ RowsV H xs rows ∧
  SqT K H wa (ws.map V.str) ∧ (¬ (few ≤ rows.length ∧ rows.length ≤ most) → BadAt C H part .non E) ∧
  (few ≤ rows.length → rows.length ≤ most → ∀ (i : Nat) (r : Row), rows[i]? = some r → ¬ r.Ok rows.length ws → (∀ (j : Nat) (r' : Row), j < i → rows[j]? = some r' → r'.Ok rows.length ws) → BadAt C H part (.int (i : Int)) E) ∧
  (few ≤ rows.length → rows.length ≤ most → (∀ r, r ∈ rows → r.Ok rows.length ws) → ∀ H', Same H H' → Q .non H')
theorem pair_classes : Paired ClsV [V.ty "list", V.ty "tuple"] [Value.type "list", Value.type "tuple"] := .cons (.ty _) (.cons (.ty _) .nil)
theorem kit_list {K : PySem.W.Frag} : PySem.W.kitAny K (.type "list") [Value.type "list", Value.type "tuple"] = some true :=
  kitAny_cons (b := true) (r := true) (kit_ty (by decide +kernel)) (fun z => by cases z) fun _ => rfl
theorem ok_check {f fR fI C : Addr} {fd fdR fdI : FuncData} (F : Fun K "check_machine" "check_machine" scheck_machine f fd) (T : Txt K mg) (G_is_row : Fx P w K mg base CX0 3 "is_row" fR fdR ["value", "size", "words"] (spRow K))
    (O_BadEnd : Ox P w K mg base 1 "BadEnd" C fI fdI ["self", "part", "row"] (spBadInit C)) :
    FnOk P w K mg base (L2.CX P w) 4 f fd ["part", "machine", "fewest", "most", "words"] (spCheck K C) := by
  refine F.okX sccheck_machine (fun vs H Q E h => ?_) (fun cdv A outer s H vs Q E hr h => ?_)
  · obtain ⟨part, l, few, most, wa, xs, rows, ws, rfl, _⟩ := h
    rfl
  · obtain ⟨part, l, few, most, wa, xs, rows, ws, rfl, hl, hR, hw, k1, k2, k3⟩ := h
    refine ⟨_, (pss_cons (ps_if (PW.pt (pw_or (pt_not (pt_val (pe_callB call_isiT (by rfl) T.b_isinstance (by decide +kernel) (pa_cons (pv 1) (pa_cons (pe_tup (pa_cons (pe_bltn (v := .ty "list") (by rfl) T.b_list (by decide +kernel) rfl) (pa_cons (pe_bltn (v := .ty "tuple") (by rfl) T.b_tuple (by decide +kernel) rfl) pa_nil))) pa_nil))))) (pw_or1 (pt_not (pt_chain op_le op_le (pv 2) (pe_callB call_len_seq (by rfl) T.b_len (by decide +kernel) (pa_cons (pv 1) pa_nil)) (pv 3)))))) (pss_one (ps_raise rfl (takes_of rfl rfl rfl rfl) (pmk_oex O_BadEnd.c O_BadEnd.iC O_BadEnd.tI O_BadEnd.ok (hr.mono (by decide)) O_BadEnd.bd .nil pass0 rfl O_BadEnd.mg (pa_cons (pv 0) (pa_cons pe_non pa_nil))))) pss_nil)
  (pss_one (ps_for (passes_of rfl) rfl (pi_enum (by rfl) T.b_enumerate (pa_cons (pv 1) pa_nil)) (pg_tup rfl (pgs_cons (pg_name (i := 5) sccheck_machine.nd rfl (Or.inl rfl)) (pgs_cons (pg_name (i := 6) sccheck_machine.nd rfl (Or.inl rfl)) pgs_nil))) (pss_one (ps_if (pt_not (pt_val (pe_call G_is_row.ok (hr.mono (by decide)) rfl G_is_row.mg G_is_row.kp G_is_row.bd .nil pass0 (pa_cons (pv 6) (pa_cons (pe_callB call_len_seq (by rfl) T.b_len (by decide +kernel) (pa_cons (pv 1) pa_nil)) (pa_cons (pv 4) pa_nil)))))) (pss_one (ps_raise rfl (takes_of rfl rfl rfl rfl) (pmk_oex O_BadEnd.c O_BadEnd.iC O_BadEnd.tI O_BadEnd.ok (hr.mono (by decide)) O_BadEnd.bd .nil pass0 rfl O_BadEnd.mg (pa_cons (pv 0) (pa_cons (pv 5) pa_nil))))) pss_nil))))), ?_⟩
    have raised : ∀ (v2 : V) (H1 : Hp), Same H H1 → BadAt C H part v2 E → ∀ a, H1 a = none → spBadInit C [.ref a, part, v2] (upd H1 a (exo a C none)) (fun v H2 => v = .non ∧ ∃ (d : Addr) (fs : List (Str × V)), H2 a = some (exo a C (some d)) ∧ H2 d = some (exd d fs) ∧ H1 d = none ∧ E (.ref C) (some d) (upd (del H2 a) d (.xd fs))) (fun _ _ _ => False) := by
      intro v2 H1 s1 kB a ha
      refine ⟨a, part, v2, rfl, upd_same, fun H' d e1 n1 ne e2 kp => ⟨rfl, d, _, e1, e2, ?_, ?_⟩⟩
      · rw [upd_ne ne] at n1
        exact n1
      · have hd : H1 d = none := by
          rw [upd_ne ne] at n1
          exact n1
        refine kB _ d (fun b o e => ?_) (s1.free hd) upd_same
        have e' := s1 b o e
        have nb : b ≠ a := ne_of_none e' ha
        have nd : b ≠ d := ne_of_none e' hd
        rw [upd_ne nd, del_ne nb]
        exact kp b o (by rw [upd_ne nb]; exact e') nb
    refine ⟨_, rfl, (by show 2 ≤ sizeLine; decide), fun p hp => ?_⟩
    generalize eh : upd H p _ = H1
    have s1 : Same H H1 := by rw [← eh]; exact Sb.Same.upd hp
    have ep : H1 p = some (.tup [.ty "list", .ty "tuple"]) := by rw [← eh]; exact upd_same
    have hl1 := s1 _ _ hl
    refine ⟨_, p, _, _, _, true, rfl, ep, pair_classes, .base (.lst hl1), kit_list, true, rfl, iteF ?_⟩
    refine ⟨_, rfl, _, rfl, l, _, rfl, .inl (SqL.of hl1), _, _, rfl, rfl, _, rfl, ?_⟩
    have elen : (xs.length : Int) = (rows.length : Int) := by rw [hR.len]
    rw [elen]
    have refused : ¬ (few ≤ rows.length ∧ rows.length ≤ most) → ∀ a, H1 a = none → spBadInit C [.ref a, part, .non] (upd H1 a (exo a C none)) (fun v H2 => v = .non ∧ ∃ (d : Addr) (fs : List (Str × V)), H2 a = some (exo a C (some d)) ∧ H2 d = some (exd d fs) ∧ H1 d = none ∧ E (.ref C) (some d) (upd (del H2 a) d (.xd fs))) (fun _ _ _ => False) :=
      fun z => raised _ _ s1 (k1 z)
    refine ite2 (fun h1 => ?_) (fun h1 => ?_)
    · have g1 : few ≤ rows.length := by
        have : (few : Int) ≤ (rows.length : Int) := of_decide_eq_true h1
        omega
      refine ⟨_, rfl, _, _, rfl, rfl, _, rfl, ?_⟩
      by_cases g2 : rows.length ≤ most
      · have e2 : decide ((rows.length : Int) ≤ (most : Int)) = true := decide_eq_true (by omega)
        rw [e2]
        refine iteF ?_
        -- the rows, one by one
        refine ⟨_, rfl, l, xs, rfl, SqL.of hl1, for_it walk_enum (fun i σ' H' => ∃ v5 v6 : Option V, σ' = [some part, some (.ref l), some (.int (few : Int)), some (.int (most : Int)), some (.ref wa), v5, v6] ∧ Same H H' ∧ (∀ (j : Nat) (r' : Row), j < i → rows[j]? = some r' → r'.Ok rows.length ws))
          ⟨none, none, rfl, s1, fun j r' z => absurd z (Nat.not_lt_zero _)⟩ (fun i σ' H' _ ⟨_, _, _, s2, _⟩ => SqL.of (s2 _ _ hl)) ?_ ?_⟩
        · rintro i x σ' H2 H3 hi ⟨v5, v6, rfl, s2, hpre⟩ ⟨t, y, z, rfl, ht, rfl, e1, e2⟩
          cases (Option.some.inj e1).symm
          obtain ⟨r, hr, hv⟩ := hR.get i z e2
          have s3 : Same H (upd H2 t (.tup [.int (i : Int), z])) := s2.trans (Sb.Same.upd ht)
          refine ⟨t, _, rfl, SqT.of upd_same, rfl, _, _, rfl, _, _, rfl, rfl, ?_⟩
          refine ⟨_, rfl, _, rfl, l, _, rfl, .inl (SqL.of (s3 _ _ hl)), _, rfl, z, r, rows.length, wa, ws, (by rw [hR.len]; rfl), RowAt.same s3 hv, sqT_same s3 hw, fun H4 s4 => ?_⟩
          refine ⟨_, rfl, ?_⟩
          by_cases hok : r.Ok rows.length ws
          · rw [decide_eq_true hok]
            refine iteF ⟨_, _, rfl, s3.trans s4, fun j r' hj hr' => ?_⟩
            by_cases ej : j = i
            · subst ej
              rw [hr] at hr'
              cases hr'
              exact hok
            · exact hpre j r' (by omega) hr'
          · rw [decide_eq_false hok]
            refine iteT ⟨_, rfl, _, rfl, (by show 2 ≤ 1000; decide), raised _ _ (s3.trans s4) (k2 g1 g2 i r hr hok hpre)⟩
        · rintro σ' H2 ⟨v5, v6, rfl, s2, hpre⟩
          refine k3 g1 g2 (fun r hr => ?_) _ s2
          obtain ⟨j, hj⟩ := List.getElem?_of_mem hr
          have hjl : j < xs.length := by
            rw [hR.len]
            exact (List.getElem?_eq_some_iff.mp hj).1
          exact hpre j r hjl hj
      · have e2 : decide ((rows.length : Int) ≤ (most : Int)) = false := decide_eq_false (by omega)
        rw [e2]
        exact iteT ⟨_, rfl, (by show 2 ≤ 1000; decide), refused (fun z => g2 z.2)⟩
    · refine ⟨false, rfl, iteT ⟨_, rfl, (by show 2 ≤ 1000; decide), refused (fun z => h1 ?_)⟩⟩
      exact decide_eq_true (by omega)

end K03

set_option Elab.async false
set_option linter.all false
set_option maxRecDepth 100000
set_option maxHeartbeats 4000000
namespace K03
open PySem L2 Sb
variable {P : Program} {w : World} {K : PySem.W.Frag} {mg : Str → Option Value} {base : Heap}
/-- ys are the tuples (part, index, row) of xs -/
def Numbered (H : Hp) (part : V) (xs ys : List V) : Prop := ys.length = xs.length ∧ ∀ (i : Nat) (v : V), xs[i]? = some v → ∃ a, ys[i]? = some (.ref a) ∧ H a = some (.tup [part, .int (i : Int), v])
theorem Numbered.same {H H' : Hp} {part : V} {xs ys : List V} (s : Same H H') (h : Numbered H part xs ys) : Numbered H' part xs ys := ⟨h.1, fun i v e => by
  obtain ⟨a, e1, e2⟩ := h.2 i v e
  exact ⟨a, e1, s _ _ e2⟩⟩
def spNumb : Sp := fun vs H Q _ => ∃ (part : V) (l : Addr) (xs : List V), vs = [part, .ref l] ∧ H l = some (.lst xs) ∧ xs.length ≤ 1000 ∧
  ∀ (H' : Hp) (p : Addr) (ys : List V), Same H H' → H p = none → H' p = some (.lst ys) → Numbered H' part xs ys → Q (.ref p) H'
theorem ok_numb {f : Addr} {fd : FuncData} (F : Fun K "numbered_rows" "numbered_rows" snumbered_rows f fd) (T : Txt K mg) : FnOk P w K mg base CX0 1 f fd ["part", "machine"] spNumb := by
  refine F.ok scnumbered_rows (fun vs H Q E h => ?_) (fun cdv A outer s H vs Q E hr h => ?_)
  · obtain ⟨part, l, xs, rfl, _⟩ := h
    rfl
  · obtain ⟨part, l, xs, rfl, hl, hn, k⟩ := h
    refine ⟨_, (pss_one (ps_ret (pe_lc (own := [("index", 2), ("row", 3)]) (g := (gTup K 2 (gCons (gName 2) (gCons (gName 3) gNil)))) (tt := tYes) rfl scnumbered_rows.nd (pi_enum (by rfl) T.b_enumerate (pa_cons (pv 1) pa_nil)) (blkOk_by (N := ["part", "machine", "index", "row"]) (own := [("index", 2), ("row", 3)]) (sc := defScope snumbered_rows) (by decide +kernel)) (fun _ _ _ _ _ => (pg_tup rfl (pgs_cons (pg_name (i := 2) scnumbered_rows.nd rfl (Or.inl rfl)) (pgs_cons (pg_name (i := 3) scnumbered_rows.nd rfl (Or.inl rfl)) pgs_nil)))) (fun _ _ _ _ _ => pts_nil) (fun _ _ _ _ _ => (pe_tup (pa_cons (pv 0) (pa_cons (pv 2) (pa_cons (pv 3) pa_nil)))))))), ?_⟩
    refine ⟨_, rfl, l, xs, rfl, SqL.of hl, fun D hD => lc_it walk_enum (fun i H' => ∃ ys : List V, Same H H' ∧ H' D = some (.lst ys) ∧ Numbered H' part (xs.take i) ys)
      ⟨[], Sb.Same.upd hD, upd_same, rfl, fun i v e => by simp at e⟩ (fun i H' _ ⟨_, s2, _⟩ => SqL.of (s2 _ _ hl)) ?_ ?_⟩
    · rintro i x H2 H3 hi ⟨ys, s2, hD2, hN⟩ ⟨t, y, z, rfl, ht, rfl, e1, e2⟩
      cases (Option.some.inj e1).symm
      have s3 : Same H (upd H2 t (.tup [.int (i : Int), z])) := s2.trans (Sb.Same.upd ht)
      have nt : D ≠ t := ne_of_none hD2 ht
      refine ⟨t, _, rfl, SqT.of upd_same, rfl, _, _, rfl, _, _, rfl, rfl, rfl, ?_⟩
      refine ⟨_, rfl, _, rfl, _, rfl, (by show 3 ≤ sizeLine; decide), fun q hq => ?_⟩
      have nq : D ≠ q := ne_of_none (by rw [upd_ne nt]; exact hD2) hq
      generalize eh : upd (upd H2 t _) q _ = H4
      have s4 : Same H2 H4 := by rw [← eh]; exact (Sb.Same.upd ht).trans (Sb.Same.upd hq)
      have q4 : H4 q = some (.tup [part, .int (i : Int), z]) := by rw [← eh]; exact upd_same
      have qD : H D = none := hD
      have hq2 : H2 q = none := (Sb.Same.upd ht).free hq
      refine ⟨ys, s4 _ _ hD2, ?_, ys ++ [.ref q], fun b o e => ?_, upd_same, ?_⟩
      · have : ys.length = i := by
          rw [hN.1, List.length_take]
          omega
        exact Nat.lt_of_le_of_lt (by omega : ys.length ≤ 1000) (by decide)
      · rw [upd_ne (ne_of_none e qD)]
        exact s4 _ _ (s2 _ _ e)
      · have el : (xs.take i).length = i := by
          rw [List.length_take]
          omega
        have et : xs.take (i + 1) = xs.take i ++ [z] := by
          rw [List.take_add_one]
          have : xs[i]? = some z := e2
          rw [this]
          rfl
        rw [et]
        refine ⟨by simp [hN.1], fun j v e => ?_⟩
        rcases Nat.lt_or_ge j i with hj | hj
        · rw [List.getElem?_append_left (by omega)] at e
          obtain ⟨a, ea, ha⟩ := hN.2 j v e
          refine ⟨a, by rw [List.getElem?_append_left (by rw [hN.1]; omega)]; exact ea, ?_⟩
          rw [upd_ne (ne_of (s4 _ _ ha) (s4 _ _ hD2) (by intro z; cases z))]
          exact s4 _ _ ha
        · have ej : j = i := by
            have := (List.getElem?_eq_some_iff.mp e).1
            simp at this
            omega
          subst ej
          rw [List.getElem?_append_right (by omega), el, Nat.sub_self] at e
          cases Option.some.inj e
          refine ⟨q, ?_, ?_⟩
          · rw [List.getElem?_append_right (by rw [hN.1]; omega), hN.1, el, Nat.sub_self]
            rfl
          · rw [upd_ne (Ne.symm nq)]
            exact q4
    · rintro H2 ⟨ys, s2, hD2, hN⟩
      rw [List.take_length] at hN
      exact k H2 D ys s2 hD hD2 hN

end K03

set_option Elab.async false
set_option linter.all false
set_option maxRecDepth 100000
set_option maxHeartbeats 4000000
namespace K03
open PySem L2 Sb
variable {P : Program} {w : World} {K : PySem.W.Frag} {mg : Str → Option Value} {base : Heap}
/-- what the top has made: the class of ends at D, the words of both machines -/
structure TxtE (K : PySem.W.Frag) (mg : Str → Option Value) (D hA sA : Addr) : Prop extends Txt K mg where
  m_End : mg "End" = some (.ref D)
  m_HEARER_WORDS : mg "HEARER_WORDS" = some (.ref hA)
  m_SENDER_WORDS : mg "SENDER_WORDS" = some (.ref sA)
  hW : ∀ H, SqT K H hA (hearerWords.map V.str)
  sW : ∀ H, SqT K H sA (senderWords.map V.str)
  clD : Cls K D
  n1 : NoAttr K D "hearer_rows"
  n2 : NoAttr K D "sender_rows"
  n3 : NoAttr K D "rows"
  most : ∃ mc u, ClX.CRead K D mc ∧ ClX.CVal K D mc "MOST" (.int 100) u
/-- the attributes of an end -/
def endF (t1 t2 t3 : Addr) : List (Str × V) := putF "rows" (.ref t3) (putF "sender_rows" (.ref t2) (putF "hearer_rows" (.ref t1) []))
/-- at e: the end of these machines -/
def EndAt (D : Addr) (H : Hp) (e : Addr) (hs ss : List Row) : Prop := ∃ (dx t1 t2 t3 : Addr) (xs ys zs us : List V), H e = some (.ins D dx (endF t1 t2 t3)) ∧ H t1 = some (.tup xs) ∧ RowsV H xs hs ∧ H t2 = some (.tup ys) ∧ RowsV H ys ss ∧
  H t3 = some (.tup (zs ++ us)) ∧ Numbered H (.str "hearer") xs zs ∧ Numbered H (.str "sender") ys us
/-- End.__init__ of two lists of rows -/
def spEnd (C D : Addr) : Sp := fun vs H Q E => ∃ (e h1 h2 dx : Addr) (xs ys : List V) (hs ss : List Row), vs = [.ref e, .ref h1, .ref h2] ∧ H e = some (.ins D dx []) ∧ H h1 = some (.lst xs) ∧ RowsV H xs hs ∧ H h2 = some (.lst ys) ∧ RowsV H ys ss ∧
  (∀ p v, endFault hs ss = some (p, v) → BadAt C H p v E) ∧
  (endFault hs ss = none → ∀ H' : Hp, EndAt D H' e hs ss → (∀ b o, H b = some o → b ≠ e → H' b = some o) → Q .non H')
theorem flat_pls : ∀ ps : List Pl, (ps.map Pl.v).all flatV = true
  | [] => rfl
  | p :: r => by
    rw [List.map_cons, List.all_cons, flat_pls r]
    cases p <;> rfl
theorem inV_pl {z : Str} : ∀ ps : List Pl, inV (.str z) (ps.map Pl.v) = decide (Pl.word z ∈ ps)
  | [] => by simp [inV]
  | p :: r => by
    have ih := inV_pl (z := z) r
    unfold inV at ih ⊢
    rw [List.map_cons, List.any_cons, ih]
    cases p with
    | num n =>
      show (false || decide (Pl.word z ∈ r)) = decide (Pl.word z ∈ Pl.num n :: r)
      simp
    | word y =>
      show ((y == z) || decide (Pl.word z ∈ r)) = decide (Pl.word z ∈ Pl.word y :: r)
      by_cases h : y = z
      · subst h
        simp
      · have h1 : (y == z) = false := by simpa using h
        have h2 : ¬ z = y := fun e => h e.symm
        rw [h1, Bool.false_or]
        simp [h2]
theorem ok_end {f fC fR fN C D hA sA fI : Addr} {fd fdC fdR fdN fdI : FuncData} (F : Fun K "__init__" "End.__init__" sEnd_init f fd) (T : TxtE K mg D hA sA)
    (G_check_machine : Fx P w K mg base (L2.CX P w) 4 "check_machine" fC fdC ["part", "machine", "fewest", "most", "words"] (spCheck K C)) (G_reached : Fx P w K mg base CX0 2 "reached" fR fdR ["rows", "begin"] (spReach K))
    (G_numbered_rows : Fx P w K mg base CX0 1 "numbered_rows" fN fdN ["part", "machine"] spNumb) (O_BadEnd : Ox P w K mg base 1 "BadEnd" C fI fdI ["self", "part", "row"] (spBadInit C)) :
    FnOk P w K mg base (L2.CX P w) 5 f fd ["self", "hearer", "sender"] (spEnd C D) := by
  refine F.okX scEnd_init (fun vs H Q E h => ?_) (fun cdv A outer s H vs Q E hr h => ?_)
  · obtain ⟨e, h1, h2, dx, xs, ys, hs, ss, rfl, _⟩ := h
    rfl
  · obtain ⟨e, h1, h2, dx, xs, ys, hs, ss, rfl, he, hl1, hR1, hl2, hR2, kB, kQ⟩ := h
    obtain ⟨mc, u, cr, cv⟩ := T.most
    refine ⟨_, (pss_cons (ps_expr (pe_call G_check_machine.ok (hr.mono (by decide)) rfl G_check_machine.mg G_check_machine.kp G_check_machine.bd .nil (passes_call (W := fun cls d _ H => E cls d H) (takes_of rfl rfl rfl rfl) (fun _ _ _ _ h => h)) (pa_cons pe_str (pa_cons (pv 1) (pa_cons pe_int (pa_cons (ClX.pe_cval (pe_glob (v := .ref _) (by rfl) T.m_End rfl)) (pa_cons (pe_glob (v := .ref _) (by rfl) T.m_HEARER_WORDS rfl) pa_nil)))))))
  (pss_cons (ps_expr (pe_call G_check_machine.ok (hr.mono (by decide)) rfl G_check_machine.mg G_check_machine.kp G_check_machine.bd .nil (passes_call (W := fun cls d _ H => E cls d H) (takes_of rfl rfl rfl rfl) (fun _ _ _ _ h => h)) (pa_cons pe_str (pa_cons (pv 2) (pa_cons pe_int (pa_cons (ClX.pe_cval (pe_glob (v := .ref _) (by rfl) T.m_End rfl)) (pa_cons (pe_glob (v := .ref _) (by rfl) T.m_SENDER_WORDS rfl) pa_nil)))))))
  (pss_cons (ps_if (pt_cmpR op_in_seq pe_str (pe_call G_reached.ok (hr.mono (by decide)) rfl G_reached.mg G_reached.kp G_reached.bd .nil pass0 (pa_cons (pv 1) (pa_cons pe_int pa_nil))) (by rfl)) (pss_one (ps_raise rfl (takes_of rfl rfl rfl rfl) (pmk_oex O_BadEnd.c O_BadEnd.iC O_BadEnd.tI O_BadEnd.ok (hr.mono (by decide)) O_BadEnd.bd .nil pass0 rfl O_BadEnd.mg (pa_cons pe_str (pa_cons pe_non pa_nil))))) pss_nil)
  (pss_cons (ps_fld (pv 0) (pe_callTy call_tuple_of (by rfl) T.b_tuple (by decide +kernel) (pa_cons (pv 1) pa_nil)) rfl)
  (pss_cons (ps_fld (pv 0) (pe_callTy call_tuple_of (by rfl) T.b_tuple (by decide +kernel) (pa_cons (pv 2) pa_nil)) rfl)
  (pss_one (ps_fld (pv 0) (pe_callTy call_tuple_of (by rfl) T.b_tuple (by decide +kernel) (pa_cons (pe_op op_cat (pe_call G_numbered_rows.ok (hr.mono (by decide)) rfl G_numbered_rows.mg G_numbered_rows.kp G_numbered_rows.bd .nil pass0 (pa_cons pe_str (pa_cons (pv 1) pa_nil))) (pe_call G_numbered_rows.ok (hr.mono (by decide)) rfl G_numbered_rows.mg G_numbered_rows.kp G_numbered_rows.bd .nil pass0 (pa_cons pe_str (pa_cons (pv 2) pa_nil)))) pa_nil)) rfl))))))), ?_⟩
    -- the hearer's machine
    refine ⟨_, rfl, D, mc, _, u, rfl, cr, cv, .str "hearer", h1, 2, 100, hA, xs, hs, hearerWords, rfl, hl1, hR1, T.hW H, fun z => kB _ _ ?_, fun g1 g2 i r er hb hp => kB _ _ ?_, fun g1 g2 hok H1 s1 => ?_⟩
    · unfold endFault
      rw [mf_size z]
    · unfold endFault
      rw [mf_row g1 g2 er hb hp]
    have m1 : machineFault 2 100 hearerWords hs = none := mf_ok g1 g2 hok
    have hR1' := hR1.same s1
    have hR2' := hR2.same s1
    -- the sender's
    refine ⟨_, rfl, D, mc, _, u, rfl, cr, cv, .str "sender", h2, 1, 100, sA, ys, ss, senderWords, rfl, s1 _ _ hl2, hR2', T.sW H1, fun z => (kB _ _ ?_).same s1, fun q1 q2 i r er hb hp => (kB _ _ ?_).same s1, fun q1 q2 hok2 H2 s2 => ?_⟩
    · unfold endFault
      rw [m1, mf_size z]
    · unfold endFault
      rw [m1, mf_row q1 q2 er hb hp]
    have m2 : machineFault 1 100 senderWords ss = none := mf_ok q1 q2 hok2
    have s12 := s1.trans s2
    -- where the body's row leads
    refine ⟨_, rfl, h1, 1, xs, hs, hearerWords, rfl, .inl (SqL.of (s12 _ _ hl1)), hR1.same s12, by omega, by omega, hok, fun H3 p ps s3 hp ep nd hin => ?_⟩
    have s13 := s12.trans s3
    refine ⟨p, _, rfl, .inl (SqL.of ep), rfl, flat_pls ps, _, rfl, ?_⟩
    show if inV (.str "taken") (ps.map Pl.v) = true then _ else _
    rw [inV_pl]
    refine ite2 (fun hc => ?_) (fun hc => ?_)
    · have ht : Reach hs 1 (.word "taken") := (hin _).mp (of_decide_eq_true hc)
      refine ⟨by show 2 ≤ 1000; decide, fun a ha => ?_⟩
      have kb : BadAt C H (.str "body") .non E := kB _ _ (by
        unfold endFault
        rw [m1, m2, if_pos ht])
      refine ⟨a, _, _, rfl, upd_same, fun H' d e1 n1 ne e2 kp => ⟨rfl, d, _, e1, e2, ?_, ?_⟩⟩
      · rw [upd_ne ne] at n1
        exact n1
      · have hd : H3 d = none := by
          rw [upd_ne ne] at n1
          exact n1
        refine kb _ d (fun b o eo => ?_) (s13.free hd) upd_same
        have e' := s13 b o eo
        have nb : b ≠ a := ne_of_none e' ha
        have nd : b ≠ d := ne_of_none e' hd
        rw [upd_ne nd, del_ne nb]
        exact kp b o (by rw [upd_ne nb]; exact e') nb
    · have ht : ¬ Reach hs 1 (.word "taken") := fun z => hc (decide_eq_true ((hin _).mpr z))
      have ef : endFault hs ss = none := by
        unfold endFault
        rw [m1, m2, if_neg ht]
      have he3 : H3 e = some (.ins D dx []) := s13 _ _ he
      have nh1 : h1 ≠ e := ne_of hl1 he (by intro z; cases z)
      have nh2 : h2 ≠ e := ne_of hl2 he (by intro z; cases z)
      have hn1 : xs.length ≤ 100 := by
        rw [hR1.len]
        exact g2
      have hn2 : ys.length ≤ 100 := by
        rw [hR2.len]
        exact q2
      -- self.hearer_rows
      refine ⟨_, rfl, h1, _, rfl, .inl ⟨SqL.of (s13 _ _ hl1), fun t1 ht1 => ?_⟩⟩
      refine ⟨_, rfl, e, D, dx, _, rfl, by rw [upd_ne (ne_of_none he3 ht1)]; exact he3, T.clD, T.n1, (by show 0 < 1000; decide), ?_⟩
      generalize eh4 : upd (upd H3 t1 _) e _ = H4
      have he4 : H4 e = some (.ins D dx (putF "hearer_rows" (.ref t1) [])) := by rw [← eh4]; exact upd_same
      have b4 : But e H3 H4 := by rw [← eh4]; exact (But.same (Sb.Same.upd ht1)).trans But.upd
      have nt1 : t1 ≠ e := Ne.symm (ne_of_none he3 ht1)
      have et1 : H4 t1 = some (.tup xs) := by rw [← eh4, upd_ne nt1]; exact upd_same
      have c4 : But e H H4 := (But.same s13).trans b4
      -- self.sender_rows
      refine ⟨_, rfl, h2, _, rfl, .inl ⟨SqL.of (c4 _ _ hl2 nh2), fun t2 ht2 => ?_⟩⟩
      refine ⟨_, rfl, e, D, dx, _, rfl, by rw [upd_ne (ne_of_none he4 ht2)]; exact he4, T.clD, T.n2, (by show 1 < 1000; decide), ?_⟩
      generalize eh5 : upd (upd H4 t2 _) e _ = H5
      have he5 : H5 e = some (.ins D dx (putF "sender_rows" (.ref t2) (putF "hearer_rows" (.ref t1) []))) := by rw [← eh5]; exact upd_same
      have b5 : But e H4 H5 := by rw [← eh5]; exact (But.same (Sb.Same.upd ht2)).trans But.upd
      have nt2 : t2 ≠ e := Ne.symm (ne_of_none he4 ht2)
      have et2 : H5 t2 = some (.tup ys) := by rw [← eh5, upd_ne nt2]; exact upd_same
      have c5 : But e H H5 := c4.trans b5
      -- self.rows
      refine ⟨_, rfl, .str "hearer", h1, xs, rfl, c5 _ _ hl1 nh1, by omega, fun H6 r1 zs s6 hr1 er1 N1 => ?_⟩
      refine ⟨_, rfl, .str "sender", h2, ys, rfl, s6 _ _ (c5 _ _ hl2 nh2), by omega, fun H7 r2 us s7 hr2 er2 N2 => ?_⟩
      have hz : zs.length ≤ 100 := by rw [N1.1]; exact hn1
      have hu : us.length ≤ 100 := by rw [N2.1]; exact hn2
      refine ⟨r1, r2, zs, us, rfl, rfl, s7 _ _ er1, er2, Nat.le_trans (by omega : zs.length + us.length ≤ 200) (by decide), fun r3 hr3 => ?_⟩
      generalize eh8 : upd H7 r3 _ = H8
      have s8 : Same H7 H8 := by rw [← eh8]; exact Sb.Same.upd hr3
      have er3 : H8 r3 = some (.lst (zs ++ us)) := by rw [← eh8]; exact upd_same
      have s58 : Same H5 H8 := (s6.trans s7).trans s8
      have he8 : H8 e = some _ := s58 _ _ he5
      refine ⟨r3, _, rfl, .inl ⟨SqL.of er3, fun t3 ht3 => ?_⟩⟩
      refine ⟨_, rfl, e, D, dx, _, rfl, by rw [upd_ne (ne_of_none he8 ht3)]; exact he8, T.clD, T.n3, (by show 2 < 1000; decide), ?_⟩
      generalize eh9 : upd (upd H8 t3 _) e _ = H9
      have he9 : H9 e = some (.ins D dx (endF t1 t2 t3)) := by rw [← eh9]; exact upd_same
      have b9 : But e H8 H9 := by rw [← eh9]; exact (But.same (Sb.Same.upd ht3)).trans But.upd
      have nt3 : t3 ≠ e := Ne.symm (ne_of_none he8 ht3)
      have et3 : H9 t3 = some (.tup (zs ++ us)) := by rw [← eh9, upd_ne nt3]; exact upd_same
      have c9 : But e H H9 := (c5.trans (But.same s58)).trans b9
      have b59 : But e H5 H9 := (But.same s58).trans b9
      have noE : ∀ {H' : Hp} {fs : List (Str × V)}, H' e = some (.ins D dx fs) → ∀ zs, H' e ≠ some (.tup zs) := fun h zs z => by
        rw [h] at z
        cases Option.some.inj z
      have keepN : ∀ {H' : Hp} {part : V} {as bs : List V} {fs : List (Str × V)}, H' e = some (.ins D dx fs) → But e H' H9 → Numbered H' part as bs → Numbered H9 part as bs := fun hE b N => ⟨N.1, fun i v z => by
        obtain ⟨a, e1, e2⟩ := N.2 i v z
        exact ⟨a, e1, b _ _ e2 (ne_of e2 hE (by intro z; cases z))⟩⟩
      refine kQ ef H9 ⟨dx, t1, t2, t3, xs, ys, zs, us, he9, b59 _ _ (b5 _ _ et1 nt1) nt1, hR1.but c9 (noE he), b59 _ _ et2 nt2, hR2.but c9 (noE he), et3, ?_, ?_⟩ c9
      · exact keepN ((s7.trans s8) _ _ (s6 _ _ he5)) ((But.refl).trans b9 |> fun _ => b9) (N1.same (s7.trans s8))
      · exact keepN (s8 _ _ (s7 _ _ (s6 _ _ he5))) b9 (N2.same s8)

end K03

set_option Elab.async false
set_option linter.all false
set_option maxRecDepth 100000
set_option maxHeartbeats 4000000
namespace K03
open PySem L2 Sb
variable {P : Program} {w : World} {K : PySem.W.Frag} {mg : Str → Option Value} {base : Heap}
/-- the class of the error: raised, caught, its fields read -/
structure BadTxt (K : PySem.W.Frag) (mg : Str → Option Value) (C : Addr) : Prop where
  xf : XfC K C
  n1 : PySem.W.findIn K (.ref C) "part" = some none
  n2 : PySem.W.findIn K (.ref C) "row" = some none
  te : PySem.W.exmOne K (.ref C) (.ref C) = some true
  mg : mg "BadEnd" = some (.ref C)
/-- a class with its __init__, made -/
structure Mx (P : Program) (w : World) (K : PySem.W.Frag) (mg : Str → Option Value) (base : Heap) (CX : CXT) (k : Nat) (x : Str) (D f : Addr) (fd : FuncData) (ps : List Str) (sp : Sp) : Prop where
  mkC : Mk K D f
  ok : FnOk P w K mg base CX k f fd ps sp
  mg : mg x = some (.ref D)
  bd : Binds K fd ps []
/-- told(hearer, sender): None, or what the error tells -/
def spTold : Sp := fun vs H Q _ => ∃ (h1 h2 : Addr) (xs ys : List V) (hs ss : List Row), vs = [.ref h1, .ref h2] ∧ H h1 = some (.lst xs) ∧ RowsV H xs hs ∧ H h2 = some (.lst ys) ∧ RowsV H ys ss ∧
  (endFault hs ss = none → ∀ H', Same H H' → Q .non H') ∧ (∀ p v, endFault hs ss = some (p, v) → ∀ (H' : Hp) (a : Addr), Same H H' → H a = none → H' a = some (.tup [p, v]) → Q (.ref a) H')
theorem ok_told {f fE C D : Addr} {fd fdE : FuncData} (F : Fun K "_law_told" "_law_told" sL_told f fd) (B : BadTxt K mg C) (M_End : Mx P w K mg base (L2.CX P w) 5 "End" D fE fdE ["self", "hearer", "sender"] (spEnd C D)) :
    FnOk P w K mg base CX0 7 f fd ["_law_hearer", "_law_sender"] spTold := by
  refine F.ok scL_told (fun vs H Q E h => ?_) (fun cdv A outer s H vs Q E hr h => ?_)
  · obtain ⟨h1, h2, xs, ys, hs, ss, rfl, _⟩ := h
    rfl
  · obtain ⟨h1, h2, xs, ys, hs, ss, rfl, hl1, hR1, hl2, hR2, k1, k2⟩ := h
    refine ⟨_, pss_cons (ps_try_as (i := 2) (tb := fun W => tDrop (tMake D (spEnd C D) [] (fun cls d H => ∀ σ : L2.St, σ.length = 3 → W cls d σ H) (tCons (tVar 0) (tCons (tVar 1) tNil))))
        (ts := fun a cls d => tRet (tTup (tCons (tXf a cls d C "part" (tVar 2)) (tCons (tXf a cls d C "row" (tVar 2)) tNil)))) (Wout := fun _ _ _ _ => False) rfl rfl scL_told.nd rfl rfl ⟨rfl, by decide, .inl B.mg⟩ takes0
        (fun W pn xe tk _ => pss_one (ps_expr (pe_make M_End.mkC M_End.ok (hr.mono (by decide)) rfl M_End.mg M_End.bd .nil (fun pins σ H s e s' I c => tk e s' (XE.of_call I (fun cls d H' h => h σ I.len) c)) (pa_cons (pv 0) (pa_cons (pv 1) pa_nil)))))
        (fun a oe cls d pn hz hf => pss_one (ps_ret (pe_tup (pa_cons (pe_xf B.xf B.n1 hz hf (pv 2)) (pa_cons (pe_xf B.xf B.n2 hz hf (pv 2)) pa_nil))))))
      (pss_one (ps_ret pe_non)), ?_⟩
    refine ⟨_, rfl, _, rfl, fun x dx hx hdx ne => ?_⟩
    generalize eh : upd (upd H dx _) x _ = H1
    have s1 : Same H H1 := by rw [← eh]; exact (Sb.Same.upd hdx).trans (Sb.Same.upd (by rw [upd_ne (Ne.symm ne)]; exact hx))
    have ex : H1 x = some (.ins D dx []) := by rw [← eh]; exact upd_same
    refine ⟨x, h1, h2, dx, xs, ys, hs, ss, rfl, ex, s1 _ _ hl1, hR1.same s1, s1 _ _ hl2, hR2.same s1, fun p v ef H' d s' n e σ hσ => ?_, fun ef H' _ b => ⟨rfl, ?_⟩⟩
    · refine ⟨true, B.te, fun _ a ha => ?_, fun z => by cases z⟩
      have g2 : (σ.set 2 (some (V.ref a)))[2]? = some (some (.ref a)) := List.getElem?_set_self (by omega)
      refine ⟨_, g2, rfl, rfl, d, _, p, rfl, e, by rfl, _, g2, rfl, rfl, d, _, v, rfl, e, by rfl, (by show 2 ≤ sizeLine; decide), fun q hq => ?_⟩
      exact k2 p v ef _ q ((s1.trans s').trans (Sb.Same.upd hq)) ((s1.trans s').free hq) upd_same
    · exact k1 ef _ fun b' o e => b _ _ (s1 _ _ e) (ne_of_none e hx)

end K03

set_option Elab.async false
set_option linter.all false
set_option maxRecDepth 100000
set_option maxHeartbeats 4000000
namespace K03
open PySem L2 Sb
variable {P : Program} {w : World} {K : PySem.W.Frag} {mg : Str → Option Value} {base : Heap}
/-- numbers as values -/
def natsV (q : List Nat) : List V := q.map fun (n : Nat) => V.int (n : Int)
def WayAt (H : Hp) (v : V) (q : List Nat) : Prop := ∃ a, v = .ref a ∧ H a = some (.tup (natsV q))
/-- the values vs are the ways qs -/
def WaysV (H : Hp) (vs : List V) (qs : List (List Nat)) : Prop := Paired (WayAt H) vs qs
theorem WayAt.but {H H' : Hp} {p : Addr} {v : V} {q : List Nat} (s : But p H H') (hp : ∀ xs, H p ≠ some (.tup xs)) (h : WayAt H v q) : WayAt H' v q := by
  obtain ⟨a, e, x⟩ := h
  exact ⟨a, e, s _ _ x fun z => hp _ (by rw [← z]; exact x)⟩
theorem WaysV.but {H H' : Hp} {p : Addr} {vs : List V} {qs : List (List Nat)} (s : But p H H') (hp : ∀ xs, H p ≠ some (.tup xs)) (h : WaysV H vs qs) : WaysV H' vs qs := Paired.mapP h fun _ _ => WayAt.but s hp
theorem WaysV.same {H H' : Hp} {vs : List V} {qs : List (List Nat)} (s : Same H H') (h : WaysV H vs qs) : WaysV H' vs qs := Paired.mapP h fun _ _ ⟨a, e, x⟩ => ⟨a, e, s _ _ x⟩
theorem WaysV.snoc {H : Hp} {v : V} {q : List Nat} (x : WayAt H v q) : ∀ {vs : List V} {qs : List (List Nat)}, WaysV H vs qs → WaysV H (vs ++ [v]) (qs ++ [q])
  | _, _, .nil => .cons x .nil
  | _, _, .cons h t => .cons h (WaysV.snoc x t)
theorem WaysV.get : ∀ {H : Hp} {vs : List V} {qs : List (List Nat)}, WaysV H vs qs → ∀ (i : Nat) (v : V), vs[i]? = some v → ∃ q, qs[i]? = some q ∧ WayAt H v q
  | _, _, _, .nil, i, v, e => by simp at e
  | _, _, _, .cons h t, 0, v, e => by
    simp at e
    subst e
    exact ⟨_, rfl, h⟩
  | _, _, _, .cons h t, i + 1, v, e => by
    obtain ⟨q, e1, e2⟩ := WaysV.get (vs := _) t i v (by simpa using e)
    exact ⟨q, by simpa using e1, e2⟩
theorem dp_nats {H : Hp} : ∀ q : List Nat, DpAll K H (natsV q) (q.map fun (n : Nat) => PyData.int (n : Int))
  | [] => .nil
  | n :: q => .cons (.int _) (dp_nats q)
theorem WayAt.dp {H : Hp} {v : V} {q : List Nat} (h : WayAt H v q) : Dp K H v (wayD q) := by
  obtain ⟨a, rfl, e⟩ := h
  exact .tup (SqT.of e) (dp_nats q)
theorem WaysV.dp {H : Hp} : ∀ {vs : List V} {qs : List (List Nat)}, WaysV H vs qs → DpAll K H vs (qs.map wayD)
  | _, _, .nil => .nil
  | _, _, .cons h t => .cons h.dp (WaysV.dp t)
theorem inV_nat {j : Nat} : ∀ q : List Nat, inV (.int (j : Int)) (natsV q) = decide (j ∈ q)
  | [] => by simp [inV, natsV]
  | n :: q => by
    have ih := inV_nat (j := j) q
    unfold inV natsV at ih ⊢
    rw [List.map_cons, List.any_cons, ih]
    show (((n : Int) == (j : Int)) || decide (j ∈ q)) = decide (j ∈ n :: q)
    by_cases h : n = j
    · subst h
      simp
    · have h1 : ((n : Int) == (j : Int)) = false := beq_eq_false_iff_ne.mpr (by omega)
      have h2 : ¬ j = n := fun e => h e.symm
      rw [h1, Bool.false_or]
      simp [h2]
theorem flat_nats : ∀ q : List Nat, (natsV q).all flatV = true
  | [] => rfl
  | _ :: q => flat_nats q
theorem any_ways (q : List Nat) : ∀ qs : List (List Nat), ((qs.map wayD).any fun z => PyData.eqv z (wayD q)) = decide (q ∈ qs)
  | [] => by simp
  | y :: r => by
    rw [List.map_cons, List.any_cons, any_ways q r, wayD_eqv]
    by_cases h : y = q
    · subst h
      simp
    · have h2 : ¬ q = y := fun e => h e.symm
      simp [h, h2]
/-- ways(rows): the words behind all ways -/
def spWays : Sp := fun vs H Q _ => ∃ (l : Addr) (xs : List V) (rows : List Row) (ws : List Str), vs = [.ref l] ∧ H l = some (.lst xs) ∧ RowsV H xs rows ∧ 2 ≤ rows.length ∧ rows.length ≤ 6 ∧ (∀ r, r ∈ rows → r.Ok rows.length ws) ∧
  ∀ (H' : Hp) (p : Addr) (zs : List Str), Same H H' → H p = none → H' p = some (.lst (zs.map V.str)) → (∀ z, z ∈ zs ↔ Told rows rows.length z) → Q (.ref p) H'
/-- the state of the middle loop: found at fa, roads at ra, later at la -/
structure MidI (H H' : Hp) (rows : List Row) (k b e : Nat) (W : List (List Nat)) (fa ra la : Addr) (vs : List V) (Z : Str → Prop) (Y : List Nat → Prop) : Prop where
  same : Same H H'
  r : H' ra = some (.lst vs)
  w : WaysV H' vs W
  n1 : fa ≠ ra
  n2 : fa ≠ la
  n3 : ra ≠ la
  f : ∃ fs : List Str, H' fa = some (.lst (fs.map V.str)) ∧ fs.length + 2 ≤ 2 * 2 ^ k + 2 * b + e ∧ ∀ z, z ∈ fs ↔ (Told rows k z ∨ ∃ c p i, c < b ∧ W[c]? = some (p ++ [i]) ∧ Fol rows i (.word z)) ∨ Z z
  l : ∃ (ls : List (List Nat)) (us : List V), H' la = some (.lst us) ∧ WaysV H' us ls ∧ ls.length ≤ 2 * b + e ∧ ∀ q, q ∈ ls ↔ (∃ c p i j, c < b ∧ W[c]? = some (p ++ [i]) ∧ Fol rows i (.num j) ∧ j ∉ p ++ [i] ∧ q = p ++ [i] ++ [j]) ∨ Y q
theorem noTup {H : Hp} {a : Addr} {xs : List V} (h : H a = some (.lst xs)) (zs : List V) : H a ≠ some (.tup zs) := fun z => by
  rw [h] at z
  cases Option.some.inj z
theorem MidI.put {H H' : Hp} {rows : List Row} {k b e : Nat} {W : List (List Nat)} {fa ra la : Addr} {vs : List V} {Z Z' : Str → Prop} {Y : List Nat → Prop} (M : MidI H H' rows k b e W fa ra la vs Z Y) (hfa : H fa = none) {fs : List Str} (hf : H' fa = some (.lst (fs.map V.str))) {y : Str}
    (hl : fs.length + 2 ≤ 2 * 2 ^ k + 2 * b + e) (hz : ∀ z, z ∈ fs ↔ (Told rows k z ∨ ∃ c p i, c < b ∧ W[c]? = some (p ++ [i]) ∧ Fol rows i (.word z)) ∨ Z z) (hZ : ∀ z, Z' z ↔ Z z ∨ z = y) :
    MidI H (upd H' fa (.lst (fs.map V.str ++ [V.str y]))) rows k b (e + 1) W fa ra la vs Z' Y := by
  obtain ⟨ls, us, l1, l2, l3, l4⟩ := M.l
  refine ⟨fun c o ho => by rw [upd_ne (ne_of_none ho hfa)]; exact M.same c o ho, by rw [upd_ne (Ne.symm M.n1)]; exact M.r, M.w.but But.upd (noTup hf), M.n1, M.n2, M.n3, ⟨fs ++ [y], by rw [upd_same]; simp, by simp; omega, fun z => ?_⟩, ⟨ls, us, by rw [upd_ne (Ne.symm M.n2)]; exact l1, l2.but But.upd (noTup hf), by omega, l4⟩⟩
  rw [List.mem_append, hz, hZ]
  simp [or_assoc]
theorem MidI.later {H H' : Hp} {rows : List Row} {k b e : Nat} {W : List (List Nat)} {fa ra la : Addr} {vs : List V} {Z : Str → Prop} {Y Y' : List Nat → Prop} (M : MidI H H' rows k b e W fa ra la vs Z Y) (hla : H la = none) {ls : List (List Nat)} {us : List V}
    (l1 : H' la = some (.lst us)) (l2 : WaysV H' us ls) (l3 : ls.length ≤ 2 * b + e) (l4 : ∀ q, q ∈ ls ↔ (∃ c p i j, c < b ∧ W[c]? = some (p ++ [i]) ∧ Fol rows i (.num j) ∧ j ∉ p ++ [i] ∧ q = p ++ [i] ++ [j]) ∨ Y q)
    {v : V} {y : List Nat} (hv : WayAt H' v y) (hY : ∀ q, Y' q ↔ Y q ∨ q = y) : MidI H (upd H' la (.lst (us ++ [v]))) rows k b (e + 1) W fa ra la vs Z Y' := by
  obtain ⟨fs, f1, f2, f3⟩ := M.f
  refine ⟨fun c o ho => by rw [upd_ne (ne_of_none ho hla)]; exact M.same c o ho, by rw [upd_ne M.n3]; exact M.r, M.w.but But.upd (noTup l1), M.n1, M.n2, M.n3, ⟨fs, by rw [upd_ne M.n2]; exact f1, by omega, f3⟩,
    ⟨ls ++ [y], us ++ [v], upd_same, (l2.snoc hv).but But.upd (noTup l1), by simp; omega, fun q => ?_⟩⟩
  rw [List.mem_append, l4, hY]
  simp [or_assoc]
/-- objects laid meanwhile -/
theorem MidI.grow {H H' H2 : Hp} {rows : List Row} {k b e : Nat} {W : List (List Nat)} {fa ra la : Addr} {vs : List V} {Z : Str → Prop} {Y : List Nat → Prop} (M : MidI H H' rows k b e W fa ra la vs Z Y) (s : Same H' H2) : MidI H H2 rows k b e W fa ra la vs Z Y := by
  obtain ⟨ls, us, l1, l2, l3, l4⟩ := M.l
  obtain ⟨fs, f1, f2, f3⟩ := M.f
  exact ⟨M.same.trans s, s _ _ M.r, M.w.same s, M.n1, M.n2, M.n3, ⟨fs, s _ _ f1, f2, f3⟩, ⟨ls, us, s _ _ l1, l2.same s, l3, l4⟩⟩
/-- nothing new, one step on -/
theorem MidI.stay {H H' : Hp} {rows : List Row} {k b e : Nat} {W : List (List Nat)} {fa ra la : Addr} {vs : List V} {Z Z' : Str → Prop} {Y Y' : List Nat → Prop} (M : MidI H H' rows k b e W fa ra la vs Z Y) (hZ : ∀ z, Z' z ↔ Z z)
    (hY : ∀ q, ((∃ c p i j, c < b ∧ W[c]? = some (p ++ [i]) ∧ Fol rows i (.num j) ∧ j ∉ p ++ [i] ∧ q = p ++ [i] ++ [j]) ∨ Y' q) ↔ ((∃ c p i j, c < b ∧ W[c]? = some (p ++ [i]) ∧ Fol rows i (.num j) ∧ j ∉ p ++ [i] ∧ q = p ++ [i] ++ [j]) ∨ Y q)) : MidI H H' rows k b (e + 1) W fa ra la vs Z' Y' := by
  obtain ⟨ls, us, l1, l2, l3, l4⟩ := M.l
  obtain ⟨fs, f1, f2, f3⟩ := M.f
  exact ⟨M.same, M.r, M.w, M.n1, M.n2, M.n3, ⟨fs, f1, by omega, fun z => by rw [f3, hZ]⟩, ⟨ls, us, l1, l2, by omega, fun q => by rw [l4, hY]⟩⟩
theorem ok_ways {f : Addr} {fd : FuncData} (F : Fun K "_law_ways" "_law_ways" sL_ways f fd) (T : Txt K mg) : FnOk P w K mg base CX0 1 f fd ["_law_rows"] spWays := by
  refine F.ok scL_ways (fun vs H Q E h => ?_) (fun cdv A outer s H vs Q E hr h => ?_)
  · obtain ⟨l, xs, rows, ws, rfl, _⟩ := h
    rfl
  · obtain ⟨l, xs, rows, ws, rfl, hl, hR, hn2, hn6, hok, k⟩ := h
    have hsz : ∀ n : Nat, n ≤ 1000000 → n < sizeLine := fun n h => Nat.lt_of_le_of_lt h (by decide)
    refine ⟨_, (pss_cons (ps_par (i := 1) (j := 2) rfl scL_ways.nd rfl rfl (by decide) rfl rfl (pa_cons (pe_lst pa_nil) (pa_cons (pe_lst (pa_cons (pe_tup (pa_cons pe_int pa_nil)) pa_nil)) pa_nil)) (by rfl))
  (pss_cons (ps_for PassesOwn.never rfl (pi_range1 (by rfl) T.b_range (pa_cons (pe_callB call_len_seq (by rfl) T.b_len (by decide +kernel) (pa_cons (pv 0) pa_nil)) pa_nil)) (pg_name (i := 3) scL_ways.nd rfl (Or.inl rfl)) (pss_cons (ps_set (i := 4) scL_ways.nd rfl (Or.inl rfl) (pe_lst pa_nil))
  (pss_cons (ps_for PassesOwn.never rfl (pi_list (pv 2)) (pg_name (i := 5) scL_ways.nd rfl (Or.inl rfl)) (pss_one (ps_for PassesOwn.never rfl (pi_tup (pe_slice sl_tup (pe_ix ix_list (pv 0) (pe_ix ix_tup (pv 5) (pe_un un_neg pe_int) (fun _ _ => rfl)) (fun _ _ => rfl)) (po_some pe_int) po_none)) (pg_name (i := 6) scL_ways.nd rfl (Or.inl rfl)) (pss_one (ps_if (pt_val (pe_callB call_isi (by rfl) T.b_isinstance (by decide +kernel) (pa_cons (pv 6) (pa_cons (pe_bltn (v := .ty "str") (by rfl) T.b_str (by decide +kernel) rfl) pa_nil)))) (pss_one (ps_expr (pe_bm PySem.F.plainAttrs_list PySem.F.slot_list_append PySem.F.type_list_append mt_append (pv 1) (pa_cons (pv 6) pa_nil)))) (pss_one (ps_if (PW.pt (pw_and (pt_cmpR op_notIn_seq (pv 6) (pv 5) (by rfl)) (pw_and1 (pt_cmpR (op_notInD (hu65 hr)) (pe_op op_catT (pv 5) (pe_tup (pa_cons (pv 6) pa_nil))) (pv 4) (by rfl))))) (pss_one (ps_expr (pe_bm PySem.F.plainAttrs_list PySem.F.slot_list_append PySem.F.type_list_append mt_append (pv 4) (pa_cons (pe_op op_catT (pv 5) (pe_tup (pa_cons (pv 6) pa_nil))) pa_nil)))) pss_nil)))))))
  (pss_one (ps_set (i := 2) scL_ways.nd rfl (Or.inl rfl) (pe_slice sl_list (pv 4) po_none (po_some pe_int)))))))
  (pss_one (ps_ret (pv 1))))), ?_⟩
    refine ⟨(by show 0 ≤ sizeLine; decide), fun fa hfa => ?_⟩
    refine ⟨(by show 1 ≤ sizeLine; decide), fun t0 ht0 => ⟨(by show 1 ≤ sizeLine; decide), fun r0 hr0 => ⟨_, _, rfl, ?_⟩⟩⟩
    generalize eh : upd (upd (upd H fa _) t0 _) r0 _ = H1
    have s01 : Same H H1 := by rw [← eh]; exact ((Sb.Same.upd hfa).trans (Sb.Same.upd ht0)).trans (Sb.Same.upd hr0)
    have hfr : fa ≠ r0 := ne_of_none (by rw [upd_ne (ne_of_none (o := .lst []) upd_same ht0)]; exact upd_same) hr0
    have ef1 : H1 fa = some (.lst []) := by rw [← eh, upd_ne hfr, upd_ne (ne_of_none (o := .lst []) upd_same ht0)]; exact upd_same
    have er1 : H1 r0 = some (.lst [.ref t0]) := by rw [← eh]; exact upd_same
    have et1 : H1 t0 = some (.tup (natsV [1])) := by rw [← eh, upd_ne (ne_of_none upd_same hr0)]; exact upd_same
    refine ⟨_, rfl, l, _, rfl, .inl (SqL.of (s01 _ _ hl)), (xs.length : Int), rfl, by rw [hR.len]; omega, by rw [hR.len]; omega, ?_⟩
    have etn : ((xs.length : Int)).toNat = rows.length := by rw [hR.len]; omega
    rw [etn]
    refine for_range (lo := 0) (n := rows.length) (fun k σ' H' => ∃ (ra : Addr) (vs : List V) (W : List (List Nat)) (fs : List Str) (v3 v4 v5 v6 : Option V), σ' = [some (.ref l), some (.ref fa), some (.ref ra), v3, v4, v5, v6] ∧ Same H H' ∧ fa ≠ ra ∧
        H' ra = some (.lst vs) ∧ WaysV H' vs W ∧ W.length ≤ 2 ^ k ∧ (∀ q, q ∈ W ↔ Way rows q ∧ q.length = k + 1) ∧ H' fa = some (.lst (fs.map V.str)) ∧ fs.length + 2 ≤ 2 * 2 ^ k ∧ (∀ z, z ∈ fs ↔ Told rows k z))
      ⟨r0, _, [[1]], [], none, none, none, none, rfl, s01, hfr, er1, .cons ⟨t0, rfl, et1⟩ .nil, Nat.le_refl 1, fun q => ?_, ef1, Nat.le_refl 2, fun z => ?_⟩ ?_ ?_
    · constructor
      · intro z
        simp at z
        subst z
        exact ⟨.one, rfl⟩
      · rintro ⟨w, hl⟩
        cases w with
        | one => simp
        | more w f n => simp at hl
    · constructor
      · intro z
        simp at z
      · rintro ⟨p, i, w, hl, _⟩
        simp at hl
    · rintro k' σ' H2 hk ⟨ra, vs, W, fs, v3, v4, v5, v6, rfl, s2, nfr, er2, hW, hWl, hWq, ef2, hfl, hfz⟩
      refine ⟨(by show 0 ≤ sizeLine; decide), fun la hla => ?_⟩
      have nfa : fa ≠ la := ne_of_none ef2 hla
      have nra : ra ≠ la := ne_of_none er2 hla
      have lS : Same H2 (upd H2 la (.lst [])) := Sb.Same.upd hla
      have hvl : vs.length = W.length := Paired.length hW
      have k64 : 2 ^ k' ≤ 64 := by
        have : k' ≤ 5 := by omega
        calc 2 ^ k' ≤ 2 ^ 5 := Nat.pow_le_pow_right (by decide) this
          _ ≤ 64 := by decide
      refine ⟨_, rfl, ra, rfl, ⟨_, SqL.of (lS _ _ er2)⟩, for_list (K := K) (a := ra) (xs := vs) (fun b σ' H' => ∃ (v5 v6 : Option V), σ' = [some (.ref l), some (.ref fa), some (.ref ra), some (.int (0 + (k' : Int))), some (.ref la), v5, v6] ∧ MidI H H' rows k' b 0 W fa ra la vs (fun _ => False) (fun _ => False))
        ⟨v5, v6, rfl, s2.trans lS, lS _ _ er2, hW.same lS, nfr, nfa, nra, ⟨fs, lS _ _ ef2, by omega, fun z => ⟨fun h => .inl (.inl ((hfz z).mp h)), fun h => by
            rcases h with (h | ⟨c, _, _, h, _⟩) | h
            · exact (hfz z).mpr h
            · omega
            · exact h.elim⟩⟩, ⟨[], [], upd_same, .nil, Nat.le_refl 0, fun q => ⟨fun h => by simp at h, fun h => by
            rcases h with ⟨c, _, _, _, h, _⟩ | h
            · omega
            · exact h.elim⟩⟩⟩
        (fun b σ' H' _ ⟨_, _, _, M⟩ => SqL.of M.r) ?_ ?_⟩
      · rintro b y σ' H3 hy ⟨v5, v6, rfl, M⟩
        obtain ⟨q0, hq0, wa, rfl, hwa⟩ := M.w.get b y hy
        have hq0w := (hWq q0).mp (List.mem_of_getElem? hq0)
        obtain ⟨p, i, rfl⟩ := hq0w.1.last
        have hi : i < rows.length := Way.small (by omega) (fun a c hf => by
          obtain ⟨r, hr, hp⟩ := hf
          have h := hok r (List.mem_of_getElem? hr)
          rcases hp with e | e
          · have := h.2.1
            rw [← e] at this
            exact this
          · have := h.2.2
            rw [← e] at this
            exact this) hq0w.1 i (by simp)
        obtain ⟨r, hr⟩ : ∃ r, rows[i]? = some r := ⟨rows[i], List.getElem?_eq_getElem hi⟩
        obtain ⟨v, hv, hva⟩ := hR.get' i r hr
        obtain ⟨rra, rfl, hra⟩ := RowAt.same M.same hva
        have elast : atI (natsV (p ++ [i])) (-1) = some (.int (i : Int)) := by
          unfold natsV
          rw [List.map_append, List.map_singleton]
          exact atI_last _ _
        refine ⟨_, rfl, _, rfl, _, rfl, wa, _, _, _, rfl, rfl, SqT.of hwa, elast, l, _, _, _, rfl, rfl, SqL.of (M.same _ _ hl), atI_nat hv, _, rfl, ?_⟩
        refine ⟨rra, _, rfl, SqT.of hra, (by intro z; have z1 : HT.sIx 3 0 (some 1) = 0 := z.1; revert z1; decide), fun tq htq => ?_⟩
        generalize eh4 : upd H3 tq _ = H4
        have t4 : Same H3 H4 := by rw [← eh4]; exact Sb.Same.upd htq
        have q4 : H4 tq = some (.tup [r.a.v, r.b.v]) := by rw [← eh4]; exact upd_same
        have fol : ∀ x : Pl, Fol rows i x ↔ x = r.a ∨ x = r.b := fun x => ⟨fun ⟨r', hr', hx⟩ => by
          rw [hr] at hr'
          cases hr'
          exact hx, fun hx => ⟨r, hr, hx⟩⟩
        refine ⟨tq, rfl, ⟨_, SqT.of q4⟩, for_tup (K := K) (a := tq) (xs := [r.a.v, r.b.v]) (fun j σ' H' => ∃ v6 : Option V, σ' = [some (.ref l), some (.ref fa), some (.ref ra), some (.int (0 + (k' : Int))), some (.ref la), some (.ref wa), v6] ∧ H' wa = some (.tup (natsV (p ++ [i]))) ∧ H' tq = some (.tup [r.a.v, r.b.v]) ∧
            MidI H H' rows k' b j W fa ra la vs (fun z => ∃ x, x ∈ [r.a, r.b].take j ∧ x = .word z) (fun q => ∃ x c, x ∈ [r.a, r.b].take j ∧ x = .num c ∧ c ∉ p ++ [i] ∧ q = p ++ [i] ++ [c]))
          ⟨v6, rfl, t4 _ _ hwa, q4, ?_⟩ (fun j σ' H' _ ⟨_, _, _, z, _⟩ => SqT.of z) ?_ ?_⟩
        · obtain ⟨ls, us, l1, l2, l3, l4⟩ := (M.grow t4).l
          obtain ⟨fs', f1, f2, f3⟩ := (M.grow t4).f
          exact ⟨M.same.trans t4, t4 _ _ M.r, M.w.same t4, M.n1, M.n2, M.n3, ⟨fs', f1, f2, fun z => by rw [f3]; simp⟩, ⟨ls, us, l1, l2, l3, fun q => by rw [l4]; simp⟩⟩
        · rintro j y σ' H5 hyj ⟨v6, rfl, hwa5, hq5, M5⟩
          obtain ⟨x, rfl, hx, htk⟩ : ∃ x : Pl, y = x.v ∧ (x = r.a ∨ x = r.b) ∧ [r.a, r.b].take (j + 1) = [r.a, r.b].take j ++ [x] := by
            match j, hyj with
            | 0, h => exact ⟨r.a, (Option.some.inj h).symm, .inl rfl, rfl⟩
            | 1, h => exact ⟨r.b, (Option.some.inj h).symm, .inr rfl, rfl⟩
            | j + 2, h => simp at h
          have hj2 : j < 2 := by
            have := (List.getElem?_eq_some_iff.mp hyj).1
            simpa using this
          have hla0 : H la = none := s2.free hla
          have hb : b < W.length := (List.getElem?_eq_some_iff.mp hq0).1
          cases x with
          | word z =>
            refine ⟨_, rfl, _, _, _, _, true, rfl, .ty _, .base (.str _), kit_ty (by decide +kernel), true, rfl, iteT ?_⟩
            obtain ⟨fs', f1, f2, f3⟩ := M5.f
            refine ⟨_, rfl, .inl ⟨rfl, _, SqL.of f1⟩, _, rfl, fa, _, _, rfl, rfl, f1, by rw [List.length_map]; exact hsz _ (by omega), ?_⟩
            refine ⟨_, rfl, by rw [upd_ne (ne_of hwa5 f1 (by intro z; cases z))]; exact hwa5, by rw [upd_ne (ne_of hq5 f1 (by intro z; cases z))]; exact hq5, ?_⟩
            have M6 := M5.put (Z' := fun z => ∃ x, x ∈ [r.a, r.b].take (j + 1) ∧ x = .word z) hfa f1 (y := z) f2 f3 fun z' => by
              rw [htk]
              simp only [List.mem_append, List.mem_singleton]
              constructor
              · rintro ⟨x, h | h, e⟩
                · exact .inl ⟨x, h, e⟩
                · rw [h] at e
                  cases e
                  exact .inr rfl
              · rintro (⟨x, h, e⟩ | h)
                · exact ⟨x, .inl h, e⟩
                · exact ⟨.word z, .inr rfl, by rw [h]⟩
            obtain ⟨ls, us, l1, l2, l3, l4⟩ := M6.l
            exact ⟨M6.same, M6.r, M6.w, M6.n1, M6.n2, M6.n3, M6.f, ⟨ls, us, l1, l2, l3, fun q => by
              rw [l4, htk]
              simp only [List.mem_append, List.mem_singleton]
              constructor
              · rintro (h | ⟨x, c, h, e⟩)
                · exact .inl h
                · exact .inr ⟨x, c, .inl h, e⟩
              · rintro (h | ⟨x, c, h | h, e⟩)
                · exact .inl h
                · exact .inr ⟨x, c, h, e⟩
                · rw [h] at e
                  cases e.1⟩⟩
          | num c =>
            have eZ : ∀ z', (∃ x, x ∈ [r.a, r.b].take (j + 1) ∧ x = .word z') ↔ ∃ x, x ∈ [r.a, r.b].take j ∧ x = .word z' := fun z' => by
              rw [htk]
              simp only [List.mem_append, List.mem_singleton]
              constructor
              · rintro ⟨x, h | h, e⟩
                · exact ⟨x, h, e⟩
                · rw [h] at e
                  cases e
              · rintro ⟨x, h, e⟩
                exact ⟨x, .inl h, e⟩
            have eY : ∀ q, (∃ x c', x ∈ [r.a, r.b].take (j + 1) ∧ x = .num c' ∧ c' ∉ p ++ [i] ∧ q = p ++ [i] ++ [c']) ↔ (∃ x c', x ∈ [r.a, r.b].take j ∧ x = .num c' ∧ c' ∉ p ++ [i] ∧ q = p ++ [i] ++ [c']) ∨ (c ∉ p ++ [i] ∧ q = p ++ [i] ++ [c]) := fun q => by
              rw [htk]
              simp only [List.mem_append (s := List.take j [r.a, r.b]), List.mem_singleton (a := _) (b := Pl.num c)]
              constructor
              · rintro ⟨x, c', h | h, e, e2⟩
                · exact .inl ⟨x, c', h, e, e2⟩
                · rw [h] at e
                  cases e
                  exact .inr e2
              · rintro (⟨x, c', h, e⟩ | e)
                · exact ⟨x, c', .inl h, e⟩
                · exact ⟨.num c, c, .inr rfl, rfl, e⟩
            refine ⟨_, rfl, _, _, _, _, false, rfl, .ty _, .base (.int _), kit_ty (by decide +kernel), false, rfl, iteF ?_⟩
            refine ⟨_, rfl, _, rfl, wa, _, rfl, .inr (SqT.of hwa5), rfl, flat_nats _, _, rfl, ?_⟩
            show if (!inV (.int (c : Int)) (natsV (p ++ [i]))) = true then _ else _
            rw [inV_nat]
            by_cases hin : c ∈ p ++ [i]
            · rw [decide_eq_true hin]
              refine iteF (iteF ⟨_, rfl, hwa5, hq5, M5.stay eZ fun q => ?_⟩)
              rw [eY]
              simp [hin]
            · rw [decide_eq_false hin]
              refine iteT ?_
              -- way + (place,)
              have made : ∀ (H6 : Hp), MidI H H6 rows k' b j W fa ra la vs (fun z => ∃ x, x ∈ [r.a, r.b].take j ∧ x = .word z) (fun q => ∃ x c, x ∈ [r.a, r.b].take j ∧ x = .num c ∧ c ∉ p ++ [i] ∧ q = p ++ [i] ++ [c]) → H6 wa = some (.tup (natsV (p ++ [i]))) → H6 tq = some (.tup [r.a.v, r.b.v]) →
                  ∀ (R : VK), (∀ (H7 : Hp) (t7 : Addr), MidI H H7 rows k' b j W fa ra la vs (fun z => ∃ x, x ∈ [r.a, r.b].take j ∧ x = .word z) (fun q => ∃ x c, x ∈ [r.a, r.b].take j ∧ x = .num c ∧ c ∉ p ++ [i] ∧ q = p ++ [i] ++ [c]) → H7 wa = some (.tup (natsV (p ++ [i]))) → H7 tq = some (.tup [r.a.v, r.b.v]) →
                    H7 t7 = some (.tup (natsV (p ++ [i] ++ [c]))) → R (.ref t7) H7) →
                  [V.int (c : Int)].length ≤ sizeLine ∧ ∀ p1, H6 p1 = none → rCatT K (.ref wa) (.ref p1) (upd H6 p1 (.tup [V.int (c : Int)])) R := by
                intro H6 M6 hwa6 hq6 R hR'
                refine ⟨(by show 1 ≤ sizeLine; decide), fun p1 hp1 => ?_⟩
                have s7 : Same H6 (upd H6 p1 (.tup [V.int (c : Int)])) := Sb.Same.upd hp1
                have hlen : (natsV (p ++ [i])).length ≤ 6 := by
                  unfold natsV
                  rw [List.length_map, hq0w.2]
                  omega
                refine ⟨wa, p1, _, _, rfl, rfl, SqT.of (s7 _ _ hwa6), SqT.of upd_same, (by unfold natsV; simp), Nat.le_of_lt (hsz _ (by simp at hlen ⊢; omega)), (fun z => by cases z), fun _ p2 hp2 => ?_⟩
                have s8 : Same H6 (upd (upd H6 p1 (.tup [V.int (c : Int)])) p2 (.tup (natsV (p ++ [i]) ++ [V.int (c : Int)]))) := s7.trans (Sb.Same.upd hp2)
                refine hR' _ p2 (M6.grow s8) (s8 _ _ hwa6) (s8 _ _ hq6) ?_
                rw [upd_same]
                unfold natsV
                simp
              refine ⟨_, rfl, _, rfl, ?_⟩
              refine made H5 M5 hwa5 hq5 _ fun H7 t7 M7 hwa7 hq7 ht7 => ?_
              · skip
                obtain ⟨ls, us, l1, l2, l3, l4⟩ := M7.l
                refine ⟨_, rfl, wayD (p ++ [i] ++ [c]), ls.map wayD, .tup (SqT.of ht7) (dp_nats _), .lst (SqL.of l1) l2.dp, wayD_shaped _, ways_shaped _, _, rfl, ?_⟩
                rw [any_ways]
                by_cases hm : p ++ [i] ++ [c] ∈ ls
                · rw [decide_eq_true hm]
                  refine iteF ⟨_, rfl, hwa7, hq7, M7.stay eZ fun q => ?_⟩
                  have hm' := (l4 _).mp hm
                  rw [eY]
                  constructor
                  · rintro (h | h | h)
                    · exact .inl h
                    · exact .inr h
                    · rw [h.2]
                      exact hm'
                  · rintro (h | h)
                    · exact .inl h
                    · exact .inr (.inl h)
                · rw [decide_eq_false hm]
                  refine iteT ⟨_, rfl, .inl ⟨rfl, _, SqL.of l1⟩, _, rfl, _, rfl, ?_⟩
                  refine made H7 M7 hwa7 hq7 _ fun H8 t8 M8 hwa8 hq8 ht8 => ?_
                  obtain ⟨ls', us', l1', l2', l3', l4'⟩ := M8.l
                  have hul : us'.length ≤ 1000 := by
                    have := Paired.length l2'
                    omega
                  refine ⟨la, _, _, rfl, rfl, l1', hsz _ (by omega), ?_⟩
                  refine ⟨_, rfl, by rw [upd_ne (ne_of hwa8 l1' (by intro z; cases z))]; exact hwa8, by rw [upd_ne (ne_of hq8 l1' (by intro z; cases z))]; exact hq8, ?_⟩
                  have M9 := M8.later (Y' := fun q => ∃ x c', x ∈ [r.a, r.b].take (j + 1) ∧ x = .num c' ∧ c' ∉ p ++ [i] ∧ q = p ++ [i] ++ [c']) hla0 l1' l2' l3' l4' (v := .ref t8) (y := p ++ [i] ++ [c]) ⟨t8, rfl, ht8⟩ fun q => by
                    rw [eY]
                    simp [hin]
                  obtain ⟨fs', f1, f2, f3⟩ := M9.f
                  exact ⟨M9.same, M9.r, M9.w, M9.n1, M9.n2, M9.n3, ⟨fs', f1, f2, fun z => by rw [f3, eZ]⟩, M9.l⟩
        · rintro σ' H5 ⟨v6, rfl, hwa5, hq5, M5⟩
          refine ⟨_, _, rfl, ?_⟩
          obtain ⟨ls, us, l1, l2, l3, l4⟩ := M5.l
          obtain ⟨fs', f1, f2, f3⟩ := M5.f
          have ebW : ∀ p' i', W[b]? = some (p' ++ [i']) → p' = p ∧ i' = i := fun p' i' e => by
            rw [hq0] at e
            obtain ⟨e1, e2⟩ := snoc_inj (Option.some.inj e)
            exact ⟨e1.symm, e2.symm⟩
          refine ⟨M5.same, M5.r, M5.w, M5.n1, M5.n2, M5.n3, ⟨fs', f1, by simp at f2; omega, fun z => ?_⟩, ⟨ls, us, l1, l2, by simp at l3; omega, fun q => ?_⟩⟩
          · rw [f3]
            constructor
            · rintro ((h | ⟨c, p', i', hc, h⟩) | ⟨x, hx, rfl⟩)
              · exact .inl (.inl h)
              · exact .inl (.inr ⟨c, p', i', by omega, h⟩)
              · refine .inl (.inr ⟨b, p, i, by omega, hq0, (fol _).mpr ?_⟩)
                simpa using hx
            · rintro ((h | ⟨c, p', i', hc, h1, h2⟩) | h)
              · exact .inl (.inl h)
              · by_cases ec : c = b
                · subst ec
                  obtain ⟨rfl, rfl⟩ := ebW _ _ h1
                  exact .inr ⟨_, by simpa using (fol _).mp h2, rfl⟩
                · exact .inl (.inr ⟨c, p', i', by omega, h1, h2⟩)
              · exact h.elim
          · rw [l4]
            constructor
            · rintro (⟨c, p', i', j', hc, h⟩ | ⟨x, c, hx, rfl, h1, h2⟩)
              · exact .inl ⟨c, p', i', j', by omega, h⟩
              · exact .inl ⟨b, p, i, c, by omega, hq0, (fol _).mpr (by simpa using hx), h1, h2⟩
            · rintro (⟨c, p', i', j', hc, h1, h2, h3, h4⟩ | h)
              · by_cases ec : c = b
                · subst ec
                  obtain ⟨rfl, rfl⟩ := ebW _ _ h1
                  exact .inr ⟨_, j', by simpa using (fol _).mp h2, rfl, h3, h4⟩
                · exact .inl ⟨c, p', i', j', by omega, h1, h2, h3, h4⟩
              · exact h.elim
      · rintro σ' H3 ⟨v5, v6, rfl, M⟩
        obtain ⟨ls, us, l1, l2, l3, l4⟩ := M.l
        obtain ⟨fs', f1, f2, f3⟩ := M.f
        have hul : us.length = ls.length := Paired.length l2
        have ecut : cutV us none (some 400) = us := by
          unfold cutV
          show (us.drop 0).take (min 400 us.length - 0) = us
          rw [List.drop_zero]
          exact List.take_of_length_le (by omega)
        refine ⟨_, rfl, _, rfl, la, _, rfl, SqL.of l1, fun r2 hr2 => ?_⟩
        rw [ecut]
        have s4 : Same H3 (upd H3 r2 (.lst us)) := Sb.Same.upd hr2
        refine ⟨r2, us, ls, fs', _, _, _, _, rfl, M.same.trans s4, ne_of_none f1 hr2, upd_same, l2.same s4, ?_, fun q => ?_, s4 _ _ f1, ?_, fun z => ?_⟩
        · have : 2 ^ (k' + 1) = 2 * 2 ^ k' := by rw [Nat.pow_succ]; omega
          omega
        · rw [l4, way_step (by omega)]
          constructor
          · rintro (⟨c, p, i, j, hc, h1, h2, h3, h4⟩ | h)
            · have := (hWq _).mp (List.mem_of_getElem? h1)
              exact ⟨p, i, j, this.1, this.2, h2, h3, h4⟩
            · exact h.elim
          · rintro ⟨p, i, j, h1, h2, h3, h4, h5⟩
            obtain ⟨c, hc⟩ := List.getElem?_of_mem ((hWq _).mpr ⟨h1, h2⟩)
            exact .inl ⟨c, p, i, j, by rw [hvl]; exact (List.getElem?_eq_some_iff.mp hc).1, hc, h3, h4, h5⟩
        · have : 2 ^ (k' + 1) = 2 * 2 ^ k' := by rw [Nat.pow_succ]; omega
          omega
        · rw [f3]
          constructor
          · rintro ((⟨p, i, w, hl, hf⟩ | ⟨c, p, i, hc, h1, h2⟩) | h)
            · exact ⟨p, i, w, by omega, hf⟩
            · have := (hWq _).mp (List.mem_of_getElem? h1)
              exact ⟨p, i, this.1, by omega, h2⟩
            · exact h.elim
          · rintro ⟨p, i, w, hl, hf⟩
            rcases Nat.lt_or_ge k' (p ++ [i]).length with h | h
            · obtain ⟨c, hc⟩ := List.getElem?_of_mem ((hWq _).mpr ⟨w, by omega⟩)
              exact .inl (.inr ⟨c, p, i, by rw [hvl]; exact (List.getElem?_eq_some_iff.mp hc).1, hc, hf⟩)
            · exact .inl (.inl ⟨p, i, w, h, hf⟩)
    · rintro σ' H2 ⟨ra, vs, W, fs, v3, v4, v5, v6, rfl, s2, nfr, er2, hW, hWl, hWq, ef2, hfl, hfz⟩
      exact ⟨_, rfl, k H2 fa fs s2 hfa ef2 hfz⟩

end K03

set_option Elab.async false
set_option linter.all false
set_option maxRecDepth 100000
set_option maxHeartbeats 4000000
namespace K03
open PySem L2 Sb
variable {P : Program} {w : World} {K : PySem.W.Frag} {mg : Str → Option Value} {base : Heap}
/-- chain(order, last) -/
def spChain : Sp := fun vs H Q _ => ∃ (o : Addr) (ns : List Nat) (last : Str), vs = [.ref o, .str last] ∧ H o = some (.lst (natsV ns)) ∧ ns.length ≤ 1000 ∧ (∀ x, x ∈ ns → x < ns.length + 2) ∧
  ∀ (H' : Hp) (q : Addr) (xs : List V), Same H H' → H q = none → H' q = some (.lst xs) → RowsV H' xs (chainRows ns last) → Q (.ref q) H'
theorem RowsV.set {H : Hp} {v : V} {r : Row} (x : RowAt H v r) : ∀ {vs : List V} {rs : List Row} (i : Nat), RowsV H vs rs → RowsV H (vs.set i v) (rs.set i r)
  | _, _, _, .nil => .nil
  | _, _, 0, .cons _ t => .cons x t
  | _, _, i + 1, .cons h t => .cons h (RowsV.set x i t)
theorem rows_rep {H : Hp} {v : V} {r : Row} (x : RowAt H v r) : ∀ n : Nat, RowsV H (List.replicate n v) (List.replicate n r)
  | 0 => .nil
  | n + 1 => .cons x (rows_rep x n)
theorem ixN_nat {n j : Nat} (h : j < n) : ixN n (j : Int) = some j := by
  unfold ixN
  simp [seqIndex?, h]
theorem cGo_two (n : Nat) (ns : List Nat) (hn : 2 ≤ n) (h : ∀ x, x ∈ ns → x < n) : (cGo n ns).2 < n := by
  rw [cGo_at]
  have hm := List.getLast_mem (l := 1 :: ns) (by simp)
  rcases List.mem_cons.mp hm with z | z
  · omega
  · exact h _ z
theorem ok_chain {f : Addr} {fd : FuncData} (F : Fun K "_law_chain" "_law_chain" sL_chain f fd) (T : Txt K mg) : FnOk P w K mg base CX0 1 f fd ["_law_order", "_law_last"] spChain := by
  refine F.ok scL_chain (fun vs H Q E h => ?_) (fun cdv A outer s H vs Q E hr h => ?_)
  · obtain ⟨o, ns, last, rfl, _⟩ := h
    rfl
  · obtain ⟨o, ns, last, rfl, ho, hlen, hns, k⟩ := h
    refine ⟨_, (pss_cons (ps_set (i := 2) scL_chain.nd rfl (Or.inl rfl) (pe_op op_rep (pe_lst (pa_cons (pe_tup (pa_cons pe_int (pa_cons pe_str (pa_cons pe_str pa_nil)))) pa_nil)) (pe_op op_add (pe_callB call_len_seq (by rfl) T.b_len (by decide +kernel) (pa_cons (pv 0) pa_nil)) pe_int)))
  (pss_cons (ps_set (i := 3) scL_chain.nd rfl (Or.inl rfl) pe_int)
  (pss_cons (ps_for PassesOwn.never rfl (pi_list (pv 0)) (pg_name (i := 4) scL_chain.nd rfl (Or.inl rfl)) (pss_cons (ps_asg (pe_tup (pa_cons pe_int (pa_cons (pv 4) (pa_cons pe_str pa_nil)))) (pg_sub (pv 2) (pv 3) set_list))
  (pss_one (ps_set (i := 3) scL_chain.nd rfl (Or.inl rfl) (pv 4)))))
  (pss_cons (ps_asg (pe_tup (pa_cons pe_int (pa_cons pe_str (pa_cons (pv 1) pa_nil)))) (pg_sub (pv 2) (pv 3) set_list))
  (pss_one (ps_ret (pv 2))))))), ?_⟩
    refine ⟨(by show 3 ≤ sizeLine; decide), fun t0 ht0 => ⟨(by show 1 ≤ sizeLine; decide), fun l0 hl0 => ?_⟩⟩
    generalize eh : upd (upd H t0 _) l0 _ = H1
    have s1 : Same H H1 := by rw [← eh]; exact (Sb.Same.upd ht0).trans (Sb.Same.upd hl0)
    have el1 : H1 l0 = some (.lst [.ref t0]) := by rw [← eh]; exact upd_same
    have et1 : H1 t0 = some (.tup cRest.vs) := by rw [← eh, upd_ne (ne_of_none upd_same hl0)]; exact upd_same
    have enl : (natsV ns).length = ns.length := by unfold natsV; rw [List.length_map]
    refine ⟨_, rfl, o, _, rfl, .inl (SqL.of (s1 _ _ ho)), _, _, rfl, rfl, l0, _, _, rfl, rfl, el1, by omega, by rw [enl]; omega, ?_, fun ra hra => ?_⟩
    · show 1 * (((natsV ns).length : Int) + 2).toNat ≤ sizeLine
      rw [enl]
      exact Nat.le_trans (by omega : 1 * ((ns.length : Int) + 2).toNat ≤ 10000) (by decide)
    have etn : (((natsV ns).length : Int) + 2).toNat = ns.length + 2 := by rw [enl]; omega
    have erep : ∀ n : Nat, (List.replicate n [V.ref t0]).flatten = List.replicate n (V.ref t0) := fun n => by
      induction n with
      | zero => rfl
      | succ n ih => rw [List.replicate_succ, List.flatten_cons, ih]; rfl
    rw [etn, erep]
    have s2 : Same H1 (upd H1 ra (.lst (List.replicate (ns.length + 2) (V.ref t0)))) := Sb.Same.upd hra
    have hra0 : H ra = none := s1.free hra
    refine ⟨_, rfl, o, rfl, ⟨_, SqL.of (s2 _ _ (s1 _ _ ho))⟩, for_list (K := K) (a := o) (xs := natsV ns) (fun b σ' H' => ∃ (xs : List V) (v4 : Option V), σ' = [some (.ref o), some (.str last), some (.ref ra), some (.int ((cGo (ns.length + 2) (ns.take b)).2 : Nat)), v4] ∧ Same H H' ∧
        H' ra = some (.lst xs) ∧ RowsV H' xs (cGo (ns.length + 2) (ns.take b)).1)
      ⟨_, none, rfl, s1.trans s2, upd_same, rows_rep ⟨t0, rfl, s2 _ _ et1⟩ _⟩ (fun b σ' H' _ ⟨_, _, _, s, _⟩ => SqL.of (s _ _ ho)) ?_ ?_⟩
    · rintro b y σ' H2 hy ⟨xs, v4, rfl, s3, er, hR⟩
      obtain ⟨i, hi, rfl⟩ : ∃ i : Nat, ns[b]? = some i ∧ y = V.int (i : Int) := by
        unfold natsV at hy
        rw [List.getElem?_map] at hy
        cases e : ns[b]? with
        | none =>
          rw [e] at hy
          cases hy
        | some i =>
          rw [e] at hy
          exact ⟨i, rfl, (Option.some.inj hy).symm⟩
      have etk : ns.take (b + 1) = ns.take b ++ [i] := by
        rw [List.take_add_one, hi]
        rfl
      have hlt : (cGo (ns.length + 2) (ns.take b)).2 < xs.length := by
        rw [hR.len, cGo_len]
        exact cGo_two _ _ (by omega) fun x hx => hns x (List.mem_of_mem_take hx)
      refine ⟨_, rfl, (by show 3 ≤ sizeLine; decide), fun t1 ht1 => ⟨_, rfl, _, rfl, ra, xs, _, _, rfl, rfl, by rw [upd_ne (ne_of_none er ht1)]; exact er, ixN_nat hlt, _, rfl, ?_⟩⟩
      have s4 : Same H2 (upd H2 t1 (.tup (cLink i).vs)) := Sb.Same.upd ht1
      have er4 := s4 _ _ er
      refine ⟨xs.set (cGo (ns.length + 2) (ns.take b)).2 (.ref t1), some (.int (i : Int)), ?_, fun c u hu => by rw [upd_ne (ne_of_none hu hra0)]; exact s4 _ _ (s3 _ _ hu), upd_same, ?_⟩
      · rw [etk, cGo_snoc]
        rfl
      · rw [etk, cGo_snoc]
        refine RowsV.but But.upd (noTup er4) ?_
        exact RowsV.set ⟨t1, rfl, upd_same⟩ _ (hR.same s4)
    · rintro σ' H2 ⟨xs, v4, rfl, s3, er, hR⟩
      rw [enl, List.take_length] at *
      have hlt : (cGo (ns.length + 2) ns).2 < xs.length := by
        rw [hR.len, cGo_len]
        exact cGo_two _ _ (by omega) hns
      refine ⟨_, rfl, (by show 3 ≤ sizeLine; decide), fun t1 ht1 => ⟨_, rfl, _, rfl, ra, xs, _, _, rfl, rfl, by rw [upd_ne (ne_of_none er ht1)]; exact er, ixN_nat hlt, _, rfl, ?_⟩⟩
      have s4 : Same H2 (upd H2 t1 (.tup (cEnd last).vs)) := Sb.Same.upd ht1
      have er4 := s4 _ _ er
      refine k _ ra _ (fun c u hu => by rw [upd_ne (ne_of_none hu hra0)]; exact s4 _ _ (s3 _ _ hu)) hra0 upd_same ?_
      refine RowsV.but But.upd (noTup er4) ?_
      exact RowsV.set ⟨t1, rfl, upd_same⟩ _ (hR.same s4)

end K03

set_option Elab.async false
set_option linter.all false
set_option maxRecDepth 100000
set_option maxHeartbeats 4000000
namespace K03
open PySem L2 Sb
variable {P : Program} {w : World} {K : PySem.W.Frag} {mg : Str → Option Value} {base : Heap}
/-- mixed(bag, many): 2 .. many - 1 in some order -/
def spMixed : Sp := fun vs H Q _ => ∃ (p : Addr) (n many : Nat), vs = [.ref p, .int many] ∧ Bag H p n ∧ n + many ≤ 1000000 ∧ 2 ≤ many ∧ many ≤ 1000 ∧
  ∀ (H' : Hp) (q : Addr) (ns : List Nat), Bag H' p (n + many) → But p H H' → H q = none → H' q = some (.lst (natsV ns)) → ns.Nodup → ns.length = many - 2 → (∀ x, x ∈ ns → 2 ≤ x ∧ x < many) → Q (.ref q) H'
theorem rg_nats (m : Nat) : rgV 2 (m : Int) = natsV ((List.range (m - 2)).map (· + 2)) := by
  unfold rgV natsV
  rw [List.map_map, show ((m : Int) - 2).toNat = m - 2 by omega]
  apply List.map_congr_left
  intro x _
  show V.int (2 + (x : Int)) = V.int (((x + 2 : Nat)) : Int)
  congr 1
  omega
theorem dp_nats' {H : Hp} : ∀ q : List Nat, DpAll K H (natsV q) (q.map fun (n : Nat) => PyData.int (n : Int))
  | [] => .nil
  | n :: q => .cons (.int _) (dp_nats' q)
theorem nats_shaped (q : List Nat) : SeqAt.shaped (.list (q.map fun (n : Nat) => PyData.int (n : Int))) = true := by
  show ((PyData.list (q.map fun (n : Nat) => PyData.int (n : Int))).canLay0 && decide ((PyData.list (q.map fun (n : Nat) => PyData.int (n : Int))).depth ≤ 64)) = true
  rw [Bool.and_eq_true]
  exact ⟨by simp [PyData.canLay0, ints_lay], decide_eq_true (by simp [PyData.depth, ints_depth])⟩
theorem nats_nil (q : List Nat) : PyData.eqv (.list (q.map fun (n : Nat) => PyData.int (n : Int))) (.list []) = decide (q = []) := by
  cases q <;> simp [PyData.eqv, PyData.eqvAll]
theorem nil_shaped : SeqAt.shaped (.list []) = true := by decide +kernel
theorem erase_perm {l : List Nat} {k : Nat} {y : Nat} (h : l[k]? = some y) : (y :: l.eraseIdx k).Perm l := by
  obtain ⟨hk, e⟩ := List.getElem?_eq_some_iff.mp h
  have e1 : l = l.take k ++ y :: l.drop (k + 1) := by
    rw [← e, ← List.drop_eq_getElem_cons hk, List.take_append_drop]
  have e2 : l.eraseIdx k = l.take k ++ l.drop (k + 1) := List.eraseIdx_eq_take_drop_succ l k
  rw [e2]
  refine List.Perm.trans List.perm_middle.symm ?_
  rw [← e1]
theorem ok_mixed {f fT : Addr} {fd fdT : FuncData} (F : Fun K "_law_mixed" "_law_mixed" sL_mixed f fd) (T : Txt K mg) (G__law_take : Fx P w K mg base CX0 1 "_law_take" fT fdT ["_law_bag_here", "_law_many"] spTake) :
    FnOk P w K mg base CX0 2 f fd ["_law_bag_here", "_law_many"] spMixed := by
  refine F.ok scL_mixed (fun vs H Q E h => ?_) (fun cdv A outer s H vs Q E hr h => ?_)
  · obtain ⟨p, n, many, rfl, _⟩ := h
    rfl
  · obtain ⟨p, n, many, rfl, hB, hn, m2, m1, k⟩ := h
    refine ⟨_, (pss_cons (ps_par (i := 2) (j := 3) rfl scL_mixed.nd rfl rfl (by decide) rfl rfl (pa_cons (pe_listRg rfl (by rfl) T.b_list (prg_2 (by rfl) T.b_range pe_int (pv 1))) (pa_cons (pe_lst pa_nil) pa_nil)) (by rfl))
  (pss_cons (ps_while PassesOwn.never (pt_cmpR (op_neD hr.units) (pv 2) (pe_lst pa_nil) (nomark _)) (pss_one (ps_expr (pe_bm PySem.F.plainAttrs_list PySem.F.slot_list_append PySem.F.type_list_append mt_append (pv 3) (pa_cons (pe_bm PySem.F.plainAttrs_list PySem.F.slot_list_pop PySem.F.type_list_pop mt_popAt (pv 2) (pa_cons (pe_call G__law_take.ok (hr.mono (by decide)) rfl G__law_take.mg G__law_take.kp G__law_take.bd .nil pass0 (pa_cons (pv 0) (pa_cons (pe_callB call_len_seq (by rfl) T.b_len (by decide +kernel) (pa_cons (pv 2) pa_nil)) pa_nil))) pa_nil)) pa_nil)))))
  (pss_one (ps_ret (pv 3))))), ?_⟩
    refine ⟨_, rfl, _, _, rfl, rfl, RgOk.of_le (by decide) (by omega) (by decide) (by omega), fun la hla => ⟨(by show 0 ≤ sizeLine; decide), fun fa hfa => ⟨_, _, rfl, ?_⟩⟩⟩
    generalize eh : upd (upd H la _) fa _ = H1
    have s1 : Same H H1 := by rw [← eh]; exact (Sb.Same.upd hla).trans (Sb.Same.upd hfa)
    have ef1 : H1 fa = some (.lst (natsV [])) := by rw [← eh]; exact upd_same
    have nlf : la ≠ fa := ne_of_none upd_same hfa
    have el1 : H1 la = some (.lst (natsV ((List.range (many - 2)).map (· + 2)))) := by
      rw [← eh, upd_ne nlf, upd_same, rg_nats]
    have hfa0 : H fa = none := (Sb.Same.upd hla).free hfa
    refine ⟨fun m σ H' => ∃ (ls fs : List Nat), σ = [some (.ref p), some (.int many), some (.ref la), some (.ref fa)] ∧ Bag H' p (n + fs.length) ∧ But p H H' ∧ H' la = some (.lst (natsV ls)) ∧ H' fa = some (.lst (natsV fs)) ∧
        (fs ++ ls).Perm ((List.range (many - 2)).map (· + 2)) ∧ m = ls.length,
      ⟨_, (List.range (many - 2)).map (· + 2), [], rfl, hB.same s1, But.same s1, el1, ef1, by simp, rfl⟩, ?_⟩
    rintro m σ H2 ⟨ls, fs, rfl, hB2, b2, el2, ef2, hp, rfl⟩
    have hlen : fs.length + ls.length = many - 2 := by
      have := hp.length_eq
      simpa using this
    have hla2 : ∀ zs, H2 la ≠ some (.tup zs) := noTup el2
    refine ⟨_, rfl, (by show 0 ≤ sizeLine; decide), fun e0 he0 => ?_⟩
    have s3 : Same H2 (upd H2 e0 (.lst [])) := Sb.Same.upd he0
    refine ⟨.list (ls.map fun (n : Nat) => PyData.int (n : Int)), .list [], .lst (SqL.of (s3 _ _ el2)) (dp_nats' ls), .lst (SqL.of upd_same) .nil, nats_shaped ls, nil_shaped, _, rfl, ?_⟩
    rw [nats_nil]
    have hB3 := hB2.same s3
    have el3 := s3 _ _ el2
    have ef3 := s3 _ _ ef2
    generalize upd H2 e0 _ = H3 at *
    have b3 : But p H H3 := b2.trans (But.same s3)
    obtain ⟨g, bb, cc, ebag, _⟩ := id hB
    have npl : la ≠ p := Ne.symm (ne_of_none ebag hla)
    have npf : fa ≠ p := Ne.symm (ne_of_none ebag hfa0)
    by_cases hnil : ls = []
    · rw [decide_eq_true hnil]
      refine iteF ?_
      subst hnil
      rw [List.append_nil] at hp
      have hnd : fs.Nodup := hp.nodup_iff.mpr (by
        refine List.Pairwise.map _ ?_ List.nodup_range
        intro a b h
        omega)
      refine ⟨_, rfl, k H3 fa fs (hB3.mono (by simp at hlen; omega)) b3 hfa0 ef3 hnd (by simpa using hlen) fun x hx => ?_⟩
      have := hp.mem_iff.mp hx
      simp at this
      omega
    · rw [decide_eq_false hnil]
      refine iteT ?_
      have hpos : 0 < ls.length := List.length_pos_iff.mpr hnil
      have enl : (natsV ls).length = ls.length := by unfold natsV; rw [List.length_map]
      refine ⟨fun σ' H' => ∃ m', m' < ls.length ∧ ∃ (ls fs : List Nat), σ' = [some (.ref p), some (.int many), some (.ref la), some (.ref fa)] ∧ Bag H' p (n + fs.length) ∧ But p H H' ∧ H' la = some (.lst (natsV ls)) ∧ H' fa = some (.lst (natsV fs)) ∧
        (fs ++ ls).Perm ((List.range (many - 2)).map (· + 2)) ∧ m' = ls.length, fun _ _ z => z, ?_⟩
      refine ⟨_, rfl, .inl ⟨rfl, _, SqL.of ef3⟩, _, rfl, .inl ⟨rfl, _, SqL.of el3⟩, _, rfl, _, rfl, la, _, rfl, .inl (SqL.of el3), p, _, _, rfl, hB3, by omega, by rw [enl]; omega, by rw [enl]; omega, fun H4 d d0 d1 hB4 b4 => ?_⟩
      rw [enl] at d1
      obtain ⟨y, rfl⟩ : ∃ y : Nat, d = (y : Int) := ⟨d.toNat, by omega⟩
      have hy : y < ls.length := by omega
      have el4 := b4 _ _ el3 npl
      have ef4 := b4 _ _ ef3 npf
      refine ⟨la, _, _, y, .int (ls[y] : Nat), rfl, rfl, el4, by omega, by omega, ?_, ?_, ?_⟩
      · rw [enl]
        unfold seqIndex?
        have h0 : ¬ ((y : Int) < 0) := by omega
        simp [hy, h0]
      · unfold natsV
        rw [List.getElem?_map, List.getElem?_eq_getElem hy]
        rfl
      have nlf' : fa ≠ la := Ne.symm nlf
      have er : (natsV ls).eraseIdx y = natsV (ls.eraseIdx y) := by
        unfold natsV
        rw [List.eraseIdx_eq_take_drop_succ, List.eraseIdx_eq_take_drop_succ, List.map_append, List.map_take, List.map_drop]
      rw [er]
      refine ⟨fa, _, _, rfl, rfl, by rw [upd_ne nlf']; exact ef4, ?_, ?_⟩
      · have : (natsV fs).length = fs.length := by unfold natsV; rw [List.length_map]
        rw [this]
        exact Nat.lt_of_le_of_lt (by omega : fs.length ≤ 1000) (by decide)
      refine ⟨_, ?_, ls.eraseIdx y, fs ++ [ls[y]], rfl, ?_, ?_, ?_, ?_, ?_, rfl⟩
      · rw [List.length_eraseIdx, if_pos hy]
        omega
      · obtain ⟨g, b, c, e, r⟩ := hB4
        refine ⟨g, b, c, by rw [upd_ne (Ne.symm npf), upd_ne (Ne.symm npl)]; exact e, ?_⟩
        simp only [List.length_append, List.length_singleton]
        refine ⟨r.1, r.2.1, r.2.2.1, r.2.2.2.1, ?_⟩
        have := r.2.2.2.2
        omega
      · intro c o ho hc
        rw [upd_ne (ne_of_none ho hfa0), upd_ne (ne_of_none ho hla)]
        exact b4 _ _ (b3 _ _ ho hc) hc
      · rw [upd_ne nlf]
        exact upd_same
      · rw [upd_same]
        unfold natsV
        simp
      · rw [List.append_assoc]
        exact (List.Perm.append_left fs (erase_perm (List.getElem?_eq_getElem hy))).trans hp

end K03

set_option Elab.async false
set_option linter.all false
set_option maxRecDepth 100000
set_option maxHeartbeats 4000000
namespace K03
open PySem L2 Sb
variable {P : Program} {w : World} {K : PySem.W.Frag} {mg : Str → Option Value} {base : Heap}
/-- what is told of an end, as Python's data -/
def flatD : V → PyData
  | .int i => .int i
  | .str s => .str s
  | .bl b => .bool b
  | _ => .none
def faultD : Option (V × V) → PyData
  | none => .none
  | some (p, v) => .tuple [flatD p, flatD v]
theorem mf_flat {few most : Nat} {ws : List Str} {rows : List Row} {v : V} (h : machineFault few most ws rows = some v) : v = .non ∨ ∃ i : Int, v = .int i := by
  unfold machineFault at h
  by_cases c : few ≤ rows.length ∧ rows.length ≤ most
  · rw [if_pos c] at h
    cases e : firstBad rows.length ws rows 0 with
    | none =>
      rw [e] at h
      cases h
    | some i =>
      rw [e] at h
      exact .inr ⟨_, (Option.some.inj h).symm⟩
  · rw [if_neg c] at h
    exact .inl (Option.some.inj h).symm
theorem fault_flat {hs ss : List Row} {p v : V} (h : endFault hs ss = some (p, v)) : (p = .str "hearer" ∨ p = .str "sender" ∨ p = .str "body") ∧ (v = .non ∨ ∃ i : Int, v = .int i) := by
  unfold endFault at h
  split at h
  · rename_i v' e
    cases h
    exact ⟨.inl rfl, mf_flat e⟩
  · split at h
    · rename_i v' e
      cases h
      exact ⟨.inr (.inl rfl), mf_flat e⟩
    · split at h
      · cases h
        exact ⟨.inr (.inr rfl), .inl rfl⟩
      · cases h
theorem flat_dp {H : Hp} {v : V} (h : v = .non ∨ (∃ i : Int, v = .int i) ∨ ∃ s : Str, v = .str s) : Dp K H v (flatD v) := by
  rcases h with rfl | ⟨i, rfl⟩ | ⟨s, rfl⟩
  · exact .non
  · exact .int i
  · exact .str s
mutual
theorem dp_same {H H' : Hp} (s : Same H H') : ∀ {v : V} {d : PyData}, Dp K H v d → Dp K H' v d
  | _, _, .non => .non
  | _, _, .bl b => .bl b
  | _, _, .int i => .int i
  | _, _, .str x => .str x
  | _, _, .lst a h => .lst (s.seq a) (dps_same s h)
  | _, _, .tup a h => .tup (sqT_same s a) (dps_same s h)
theorem dps_same {H H' : Hp} (s : Same H H') : ∀ {vs : List V} {ds : List PyData}, DpAll K H vs ds → DpAll K H' vs ds
  | _, _, .nil => .nil
  | _, _, .cons h t => .cons (dp_same s h) (dps_same s t)
end
theorem fault_shaped (hs ss : List Row) : SeqAt.shaped (faultD (endFault hs ss)) = true := by
  cases e : endFault hs ss with
  | none => decide +kernel
  | some pv =>
    obtain ⟨p, v⟩ := pv
    obtain ⟨hp, hv⟩ := fault_flat e
    have s1 : PyData.strOk "hearer" = true := by decide +kernel
    have s2 : PyData.strOk "sender" = true := by decide +kernel
    have s3 : PyData.strOk "body" = true := by decide +kernel
    show ((faultD (some (p, v))).canLay0 && decide ((faultD (some (p, v))).depth ≤ 64)) = true
    rw [Bool.and_eq_true]
    rcases hp with rfl | rfl | rfl <;> rcases hv with rfl | ⟨i, rfl⟩ <;>
      exact ⟨by simp [faultD, flatD, PyData.canLay0, PyData.canLayAll0, s1, s2, s3], decide_eq_true (by simp [faultD, flatD, PyData.depth, PyData.depthAll])⟩
/-- told(hearer, sender): what is told, as data -/
def spTellD (K : PySem.W.Frag) : Sp := fun vs H Q _ => ∃ (h1 h2 : Addr) (xs ys : List V) (hs ss : List Row), vs = [.ref h1, .ref h2] ∧ H h1 = some (.lst xs) ∧ RowsV H xs hs ∧ H h2 = some (.lst ys) ∧ RowsV H ys ss ∧
  ∀ (H' : Hp) (r : V), Same H H' → Dp K H' r (faultD (endFault hs ss)) → Q r H'
theorem told_tells (vs : List V) (H : Hp) (Q : VK) (E : XK) (h : spTellD K vs H Q E) : spTold vs H Q E := by
  obtain ⟨h1, h2, xs, ys, hs, ss, rfl, e1, r1, e2, r2, k⟩ := h
  refine ⟨h1, h2, xs, ys, hs, ss, rfl, e1, r1, e2, r2, fun ef H' s => k H' .non s (by rw [ef]; exact .non), fun p v ef H' a s ha e => k H' _ s ?_⟩
  rw [ef]
  obtain ⟨hp, hv⟩ := fault_flat ef
  have hp' : ∃ y : Str, p = .str y := by rcases hp with h | h | h <;> exact ⟨_, h⟩
  obtain ⟨y, rfl⟩ := hp'
  refine .tup (SqT.of e) (.cons (.str y) (.cons (flat_dp ?_) .nil))
  rcases hv with h | h
  · exact .inl h
  · exact .inr (.inl h)
theorem eqv_self (hs ss : List Row) : PyData.eqv (faultD (endFault hs ss)) (faultD (endFault hs ss)) = true := SeqAt.eqv_refl _ (SeqAt.canLay_of_shaped (fault_shaped hs ss))
theorem dp_none {H : Hp} {r : V} (h : Dp K H r .none) : r = .non := by cases h; rfl
theorem same_but {H H1 H2 : Hp} {p : Addr} (s : Same H H1) (b : But p H1 H2) (hp : H p = none) : Same H H2 := fun c o h => b _ _ (s _ _ h) (ne_of_none h hp)
/-- a machine all of whose rows fit, beside the small sender -/
theorem fault_small {hs : List Row} (h2 : 2 ≤ hs.length) (h100 : hs.length ≤ 100) (hok : ∀ r, r ∈ hs → r.Ok hs.length hearerWords) [Decidable (Reach hs 1 (.word "taken"))] :
    endFault hs tailRows = if Reach hs 1 (.word "taken") then some (.str "body", .non) else none := by
  unfold endFault
  rw [mf_ok h2 h100 hok, tail_ok]
  by_cases c : Reach hs 1 (.word "taken")
  · simp only [if_pos c]
  · simp only [if_neg c]
theorem fault_wrong {hs : List Row} (h2 : 2 ≤ hs.length) (h100 : hs.length ≤ 100) (hok : ∀ r, r ∈ hs → r.Ok hs.length hearerWords) : endFault hs [⟨1, .num 1, .word "done"⟩] = some (.str "sender", .int 0) := by
  have e : machineFault 1 100 senderWords [⟨1, .num 1, .word "done"⟩] = some (.int 0) := by decide +kernel
  unfold endFault
  rw [mf_ok h2 h100 hok, e]
def rowsA : List Row := [⟨1, .num 1, .word "taken"⟩, ⟨0, .num 1, .num 1⟩]
def rowsB : List Row := [⟨1, .num 1, .word "taken"⟩, ⟨0, .word "lost", .num 0⟩]
theorem fault_A : endFault rowsA tailRows = none := by
  have n : ¬ Reach rowsA 1 (.word "taken") := by
    intro h
    have key : ∀ x, Reach rowsA 1 x → x = .num 1 := by
      intro x h
      induction h with
      | base => rfl
      | step _ f ih =>
        cases ih
        obtain ⟨r, hr, hp⟩ := f
        cases Option.some.inj hr
        rcases hp with rfl | rfl <;> rfl
    cases key _ h
  unfold endFault
  rw [mf_ok (by decide) (by decide) (by decide +kernel), tail_ok]
  exact if_neg n
theorem fault_B : endFault rowsB tailRows = some (.str "body", .non) := by
  have y : Reach rowsB 1 (.word "taken") := .step (i := 0) (.step (i := 1) .base ⟨_, rfl, .inr rfl⟩) ⟨_, rfl, .inr rfl⟩
  unfold endFault
  rw [mf_ok (by decide) (by decide) (by decide +kernel), tail_ok]
  exact if_pos y

end K03

set_option Elab.async false
set_option linter.all false
set_option maxRecDepth 100000
set_option maxHeartbeats 4000000
namespace K03
open PySem L2 Sb
variable {P : Program} {w : World} {K : PySem.W.Frag} {mg : Str → Option Value} {base : Heap}
def spLaw (K : PySem.W.Frag) : Sp := fun vs H Q _ => ∃ (a : Addr) (ns : List Int), vs = [.ref a] ∧ SqL K H a (ns.map V.int) ∧ ns.length ≤ 63 ∧ ∀ H', Q (.bl true) H'
theorem sqT_but {H H' : Hp} {p a : Addr} {xs ys : List V} (b : But p H H') (hp : H p = some (.lst ys)) (h : SqT K H a xs) : SqT K H' a xs := by
  rcases h with (h | ⟨o, h⟩) | h
  · exact .inl (.inl (b _ _ h (ne_of h hp (by intro z; cases z))))
  · exact .inl (.inr ⟨o, b _ _ h (ne_of h hp (by intro z; cases z))⟩)
  · exact .inr h
theorem body_tup {H : Hp} {r : V} (h : Dp K H r (.tuple [.str "body", .none])) : ∃ b1, r = .ref b1 ∧ SqT K H b1 [.str "body", .non] := by
  cases h with
  | tup ht hd =>
    cases hd with
    | cons x1 hd =>
      cases x1
      cases hd with
      | cons x2 hd =>
        cases x2
        cases hd
        exact ⟨_, rfl, ht⟩
theorem ok_law {f fB fT fP fW fO fC fM : Addr} {fd fdB fdT fdP fdW fdO fdC fdM : FuncData} (F : Fun K "law" "law" slaw f fd) (T : Txt K mg)
    (G__law_bag : Fx P w K mg base CX0 1 "_law_bag" fB fdB ["_law_script", "_law_at"] (spBag K)) (G__law_take : Fx P w K mg base CX0 1 "_law_take" fT fdT ["_law_bag_here", "_law_many"] spTake)
    (G__law_place : Fx P w K mg base CX0 2 "_law_place" fP fdP ["_law_bag_here", "_law_many"] spPlace) (G__law_ways : Fx P w K mg base CX0 1 "_law_ways" fW fdW ["_law_rows"] spWays)
    (G__law_told : Fx P w K mg base CX0 7 "_law_told" fO fdO ["_law_hearer", "_law_sender"] (spTellD K)) (G__law_chain : Fx P w K mg base CX0 1 "_law_chain" fC fdC ["_law_order", "_law_last"] spChain)
    (G__law_mixed : Fx P w K mg base CX0 2 "_law_mixed" fM fdM ["_law_bag_here", "_law_many"] spMixed) : FnOk P w K mg base CX0 9 f fd ["_law_script"] (spLaw K) := by
  refine F.ok sclaw (fun vs H Q E h => ?_) (fun cdv A outer s H vs Q E hr h => ?_)
  · obtain ⟨a, ns, rfl, _⟩ := h
    rfl
  · obtain ⟨a, ns, rfl, hS, hlen, k⟩ := h
    refine ⟨_, (pss_cons (ps_set (i := 1) sclaw.nd rfl (Or.inl rfl) (pe_lst (pa_cons (pe_tup (pa_cons pe_int (pa_cons pe_str (pa_cons pe_str pa_nil)))) pa_nil)))
  (pss_cons (ps_for PassesOwn.never rfl (pi_range1 (by rfl) T.b_range (pa_cons (pe_callB (call_max2 rfl) (by rfl) T.b_max (by decide +kernel) (pa_cons pe_int (pa_cons (pe_callB (call_min2 rfl) (by rfl) T.b_min (by decide +kernel) (pa_cons pe_int (pa_cons (pe_callB call_len_seq (by rfl) T.b_len (by decide +kernel) (pa_cons (pv 0) pa_nil)) pa_nil))) pa_nil))) pa_nil)) (pg_name (i := 2) sclaw.nd rfl (Or.inl rfl)) (pss_cons (ps_set (i := 3) sclaw.nd rfl (Or.inr rfl) (pe_call G__law_bag.ok (hr.mono (by decide)) rfl G__law_bag.mg G__law_bag.kp G__law_bag.bd .nil pass0 (pa_cons (pv 0) (pa_cons (pv 2) pa_nil))))
  (pss_cons (ps_for PassesOwn.never rfl (pi_range1 (by rfl) T.b_range (pa_cons pe_int pa_nil)) (pg_name (i := 4) sclaw.nd rfl (Or.inl rfl)) (pss_cons (ps_set (i := 5) sclaw.nd rfl (Or.inr rfl) (pe_op op_add pe_int (pe_call G__law_take.ok (hr.mono (by decide)) rfl G__law_take.mg G__law_take.kp G__law_take.bd .nil pass0 (pa_cons (pv 3) (pa_cons pe_int pa_nil)))))
  (C8.pss_cut (ps_setLc (i := 6) (own := [("_law_at", 11)]) (g := (gName 11)) (tt := tYes) rfl sclaw.nd rfl rfl (sw_true rfl rfl rfl (by decide +kernel)) (pi_range1 (by rfl) T.b_range (pa_cons (pv 5) pa_nil)) (blkOk_by (N := ["_law_script", "_law_tail", "_law_k", "_law_bag_here", "_law_turn", "_law_many", "_law_rows", "_law_due", "_law_order", "_law_long", "_law_found", "_law_at"]) (own := [("_law_at", 11)]) (sc := defScope slaw) (by decide +kernel)) (fun _ _ _ _ _ => (pg_name (i := 11) sclaw.nd rfl (Or.inl rfl))) (fun _ _ _ _ _ => pts_nil) (fun _ _ _ _ _ => (pe_tup (pa_cons (pe_call G__law_take.ok (hr.mono (by decide)) rfl G__law_take.mg G__law_take.kp G__law_take.bd .nil pass0 (pa_cons (pv 3) (pa_cons pe_int pa_nil))) (pa_cons (pe_call G__law_place.ok (hr.mono (by decide)) rfl G__law_place.mg G__law_place.kp G__law_place.bd .nil pass0 (pa_cons (pv 3) (pa_cons (pv 5) pa_nil))) (pa_cons (pe_call G__law_place.ok (hr.mono (by decide)) rfl G__law_place.mg G__law_place.kp G__law_place.bd .nil pass0 (pa_cons (pv 3) (pa_cons (pv 5) pa_nil))) pa_nil))))))
  (C8.pss_cut (ps_set (i := 7) sclaw.nd rfl (Or.inl rfl) (pe_ifExp (pt_cmpR op_in_seq pe_str (pe_call G__law_ways.ok (hr.mono (by decide)) rfl G__law_ways.mg G__law_ways.kp G__law_ways.bd .nil pass0 (pa_cons (pv 6) pa_nil)) (by rfl)) (pe_tup (pa_cons pe_str (pa_cons pe_non pa_nil))) pe_non))
  (pss_one (ps_if (PW.pt (pw_or (pt_cmpR (op_neD hr.units) (pe_call G__law_told.ok (hr.mono (by decide)) rfl G__law_told.mg G__law_told.kp G__law_told.bd .nil pass0 (pa_cons (pv 6) (pa_cons (pv 1) pa_nil))) (pv 7) (nomark _)) (pw_or1 (pt_cmpR (op_neD hr.units) (pe_call G__law_told.ok (hr.mono (by decide)) rfl G__law_told.mg G__law_told.kp G__law_told.bd .nil pass0 (pa_cons (pv 6) (pa_cons (pe_lst (pa_cons (pe_tup (pa_cons pe_int (pa_cons pe_int (pa_cons pe_str pa_nil)))) pa_nil)) pa_nil))) (pe_tup (pa_cons pe_str (pa_cons pe_int pa_nil))) (nomark _))))) (pss_one (ps_ret pe_bl)) pss_nil))))))
  (pss_cons (ps_set (i := 8) sclaw.nd rfl (Or.inl rfl) (pe_call G__law_mixed.ok (hr.mono (by decide)) rfl G__law_mixed.mg G__law_mixed.kp G__law_mixed.bd .nil pass0 (pa_cons (pv 3) (pa_cons (pe_op op_add pe_int (pe_call G__law_take.ok (hr.mono (by decide)) rfl G__law_take.mg G__law_take.kp G__law_take.bd .nil pass0 (pa_cons (pv 3) (pa_cons pe_int pa_nil)))) pa_nil))))
  (pss_cons (ps_if (pt_cmpR (op_neD hr.units) (pe_call G__law_told.ok (hr.mono (by decide)) rfl G__law_told.mg G__law_told.kp G__law_told.bd .nil pass0 (pa_cons (pe_call G__law_chain.ok (hr.mono (by decide)) rfl G__law_chain.mg G__law_chain.kp G__law_chain.bd .nil pass0 (pa_cons (pv 8) (pa_cons pe_str pa_nil))) (pa_cons (pv 1) pa_nil))) (pe_tup (pa_cons pe_str (pa_cons pe_non pa_nil))) (nomark _)) (pss_one (ps_ret pe_bl)) pss_nil)
  (pss_one (ps_if (pt_cmpR op_notN (pe_call G__law_told.ok (hr.mono (by decide)) rfl G__law_told.mg G__law_told.kp G__law_told.bd .nil pass0 (pa_cons (pe_call G__law_chain.ok (hr.mono (by decide)) rfl G__law_chain.mg G__law_chain.kp G__law_chain.bd .nil pass0 (pa_cons (pv 8) (pa_cons pe_str pa_nil))) (pa_cons (pv 1) pa_nil))) pe_non (nomark _)) (pss_one (ps_ret pe_bl)) pss_nil)))))))
  (pss_cons (ps_set (i := 9) sclaw.nd rfl (Or.inl rfl) (pe_listRg rfl (by rfl) T.b_list (prg_2 (by rfl) T.b_range pe_int pe_int)))
  (pss_cons (ps_set (i := 10) sclaw.nd rfl (Or.inl rfl) (pe_lst (pa_cons (pe_call G__law_told.ok (hr.mono (by decide)) rfl G__law_told.mg G__law_told.kp G__law_told.bd .nil pass0 (pa_cons (pe_call G__law_chain.ok (hr.mono (by decide)) rfl G__law_chain.mg G__law_chain.kp G__law_chain.bd .nil pass0 (pa_cons (pv 9) (pa_cons pe_str pa_nil))) (pa_cons (pv 1) pa_nil))) (pa_cons (pe_call G__law_told.ok (hr.mono (by decide)) rfl G__law_told.mg G__law_told.kp G__law_told.bd .nil pass0 (pa_cons (pe_call G__law_chain.ok (hr.mono (by decide)) rfl G__law_chain.mg G__law_chain.kp G__law_chain.bd .nil pass0 (pa_cons (pv 9) (pa_cons pe_str pa_nil))) (pa_cons (pv 1) pa_nil))) pa_nil))))
  (pss_cons (ps_expr (pe_bm PySem.F.plainAttrs_list PySem.F.slot_list_append PySem.F.type_list_append mt_append (pv 10) (pa_cons (pe_call G__law_told.ok (hr.mono (by decide)) rfl G__law_told.mg G__law_told.kp G__law_told.bd .nil pass0 (pa_cons (pe_lst (pa_cons (pe_tup (pa_cons pe_int (pa_cons pe_int (pa_cons pe_str pa_nil)))) (pa_cons (pe_tup (pa_cons pe_int (pa_cons pe_int (pa_cons pe_int pa_nil)))) pa_nil))) (pa_cons (pv 1) pa_nil))) pa_nil)))
  (pss_cons (ps_expr (pe_bm PySem.F.plainAttrs_list PySem.F.slot_list_append PySem.F.type_list_append mt_append (pv 10) (pa_cons (pe_call G__law_told.ok (hr.mono (by decide)) rfl G__law_told.mg G__law_told.kp G__law_told.bd .nil pass0 (pa_cons (pe_lst (pa_cons (pe_tup (pa_cons pe_int (pa_cons pe_int (pa_cons pe_str pa_nil)))) (pa_cons (pe_tup (pa_cons pe_int (pa_cons pe_str (pa_cons pe_int pa_nil)))) pa_nil))) (pa_cons (pv 1) pa_nil))) pa_nil)))
  (pss_one (ps_ret (pe_cmpR (op_eqD hr.units) (pv 10) (pe_lst (pa_cons (pe_tup (pa_cons pe_str (pa_cons pe_non pa_nil))) (pa_cons pe_non (pa_cons pe_non (pa_cons (pe_tup (pa_cons pe_str (pa_cons pe_non pa_nil))) pa_nil))))) (nomark _)))))))))), ?_⟩
    -- tail
    refine ⟨(by show 3 ≤ sizeLine; decide), fun t0 ht0 => ⟨(by show 1 ≤ sizeLine; decide), fun tl htl => ?_⟩⟩
    generalize eh : upd (upd H t0 _) tl _ = H1
    have s1 : Same H H1 := by rw [← eh]; exact (Sb.Same.upd ht0).trans (Sb.Same.upd htl)
    have el1 : H1 tl = some (.lst [.ref t0]) := by rw [← eh]; exact upd_same
    have et1 : RowsV H1 [.ref t0] tailRows := .cons ⟨t0, rfl, by rw [← eh, upd_ne (ne_of_none upd_same htl)]; exact upd_same⟩ .nil
    have hS1 := s1.seq hS
    -- what a call of told needs of the tail
    have ht0' : H t0 = none := ht0
    -- the cells
    refine ⟨_, rfl, a, _, rfl, .inl hS1, _, _, rfl, _, _, rfl, _, rfl, by split <;> (try split) <;> omega, by split <;> (try split) <;> omega,
      for_range (lo := 0) (n := _) (fun i σ' H' => ∃ v2 v3 v4 v5 v6 v7 v8 v9 v10 v11 : Option V, σ' = [some (.ref a), some (.ref tl), v2, v3, v4, v5, v6, v7, v8, v9, v10, v11] ∧ Same H1 H')
      ⟨none, none, none, none, none, none, none, none, none, none, rfl, Same.refl _⟩ ?_ ?_⟩
    · rintro i σ' H2 hi ⟨v2, v3, v4, v5, v6, v7, v8, v9, v10, v11, rfl, s2⟩
      have hi4 : i ≤ 4 := by
        have h2 : ∀ z : Int, z.toNat ≤ 4 → i < z.toNat → i ≤ 4 := fun z h h' => by omega
        refine h2 _ ?_ hi
        split <;> (try split) <;> omega
      refine ⟨_, rfl, _, rfl, a, ns, i, by rw [Int.zero_add]; rfl, s2.seq hS1, by omega, hlen, fun H3 p hp s3 hB3 => ?_⟩
      have hp1 : H1 p = none := s2.free hp
      have s13 : Same H1 H3 := s2.trans s3
      -- the turns
      refine ⟨6, rfl, by decide, by decide, for_range (lo := 0) (n := 6) (fun t σ' H' => ∃ v4 v5 v6 v7 v8 v9 v10 v11 : Option V, σ' = [some (.ref a), some (.ref tl), some (.int (0 + (i : Int))), some (.ref p), v4, v5, v6, v7, v8, v9, v10, v11] ∧ Same H1 H' ∧ Bag H' p (25 * t))
        ⟨v4, v5, v6, v7, v8, v9, v10, v11, rfl, s13, hB3⟩ ?_ ?_⟩
      · rintro t σ' H4 ht ⟨v4, v5, v6, v7, v8, v9, v10, v11, rfl, s4, hB4⟩
        refine ⟨_, rfl, p, _, 5, rfl, hB4, by omega, by decide, by decide, fun H5 d d0 d1 hB5 b5 => ?_⟩
        obtain ⟨m, rfl⟩ : ∃ m : Nat, d = (m : Int) := ⟨d.toNat, by omega⟩
        have hm : m < 5 := by omega
        have s5 : Same H1 H5 := same_but s4 b5 hp1
        refine ⟨_, _, rfl, rfl, ?_⟩
        -- the rows
        refine ⟨fun σ' H' => ∃ (D : Addr) (vs : List V) (rs : List Row) (v7 v8 v9 v10 v11 : Option V), σ' = [some (.ref a), some (.ref tl), some (.int (0 + (i : Int))), some (.ref p), some (.int (0 + (t : Int))), some (.int (2 + (m : Int))), some (.ref D), v7, v8, v9, v10, v11] ∧
            Same H1 H' ∧ Bag H' p (25 * t + 19) ∧ H' D = some (.lst vs) ∧ RowsV H' vs rs ∧ rs.length = 2 + m ∧ (∀ r, r ∈ rs → r.Ok (2 + m) hearerWords), ?_, ?_⟩
        · refine ⟨_, rfl, _, rfl, by omega, by omega, fun D hD => lc_range (lo := 0) (n := (2 + (m : Int)).toNat) (fun j H' => ∃ (vs : List V) (rs : List Row), Same H1 H' ∧ Bag H' p (25 * t + 1 + 3 * j) ∧ H' D = some (.lst vs) ∧ RowsV H' vs rs ∧ rs.length = j ∧ (∀ r, r ∈ rs → r.Ok (2 + m) hearerWords))
            ⟨[], [], s5.trans (Sb.Same.upd hD), hB5.same (Sb.Same.upd hD), upd_same, .nil, rfl, fun r hr => by simp at hr⟩ ?_ ?_⟩
          · have hD1 : H1 D = none := s5.free hD
            have npD : D ≠ p := by
              obtain ⟨g, b, c, e, _⟩ := hB5
              exact Ne.symm (ne_of_none e hD)
            rintro j H6 hj ⟨vs, rs, s6, hB6, eD6, hR6, hrl, hrok⟩
            refine ⟨rfl, ?_⟩
            refine ⟨_, rfl, p, _, 2, rfl, hB6, by omega, by decide, by decide, fun H7 d7 d70 d71 hB7 b7 => ?_⟩
            obtain ⟨put, rfl⟩ : ∃ put : Nat, d7 = (put : Int) := ⟨d7.toNat, by omega⟩
            have hput : put < 2 := by omega
            refine ⟨_, rfl, _, rfl, p, _, 2 + m, rfl, hB7, by omega, by omega, by omega, fun H8 xa hxa hB8 b8 => ?_⟩
            refine ⟨_, rfl, _, rfl, p, _, 2 + m, rfl, hB8, by omega, by omega, by omega, fun H9 xb hxb hB9 b9 => ?_⟩
            refine ⟨(by show 3 ≤ sizeLine; decide), fun q hq => ?_⟩
            have b69 : But p H6 H9 := (b7.trans b8).trans b9
            have eD9 : H9 D = some (.lst vs) := b69 _ _ eD6 npD
            have sq : Same H9 (upd H9 q (.tup (Row.vs ⟨put, xa, xb⟩))) := Sb.Same.upd hq
            have hvl : vs.length = j := by rw [hR6.len, hrl]
            refine ⟨vs, sq _ _ eD9, Nat.lt_of_le_of_lt (by omega : vs.length ≤ 1000) (by decide), vs ++ [.ref q], rs ++ [⟨put, xa, xb⟩], fun c o ho => ?_, ?_, upd_same, ?_, by simp [hrl], fun r hr' => ?_⟩
            · rw [upd_ne (ne_of_none ho hD1)]
              exact sq _ _ (same_but s6 b69 hp1 _ _ ho)
            · obtain ⟨g, b, c, e, r1, r2, r3, r4, r5⟩ := hB9
              refine ⟨g, b, c, by rw [upd_ne (Ne.symm npD)]; exact sq _ _ e, r1, r2, r3, r4, by omega⟩
            · refine RowsV.but But.upd (noTup (sq _ _ eD9)) ?_
              exact RowsV.snoc ⟨q, rfl, upd_same⟩ ((hR6.but b69 hB6.no).same sq)
            · rcases List.mem_append.mp hr' with z | z
              · exact hrok r z
              · simp at z
                subst z
                exact ⟨by show put = 0 ∨ put = 1; omega, hxa, hxb⟩
          · rintro H6 ⟨vs, rs, s6, hB6, eD6, hR6, hrl, hrok⟩
            exact ⟨D, vs, rs, v7, v8, v9, v10, v11, rfl, s6, hB6.mono (by omega), eD6, hR6, by omega, hrok⟩
        · rintro σ' H6 ⟨D, vs, rs, v7, v8, v9, v10, v11, rfl, s6, hB6, eD6, hR6, hrl, hrok⟩
          have hrok' : ∀ r, r ∈ rs → r.Ok rs.length hearerWords := by rw [hrl]; exact hrok
          have hfol : ∀ i j, Fol rs i (.num j) → j < rs.length := fun i j hf => by
            obtain ⟨r, hr', hp'⟩ := hf
            have h := hrok' r (List.mem_of_getElem? hr')
            rcases hp' with e | e
            · have := h.2.1
              rw [← e] at this
              exact this
            · have := h.2.2
              rw [← e] at this
              exact this
          have eftail : Reach rs 1 (.word "taken") ∧ endFault rs tailRows = some (.str "body", .non) ∨ ¬ Reach rs 1 (.word "taken") ∧ endFault rs tailRows = none := by
            by_cases c : Reach rs 1 (.word "taken")
            · refine .inl ⟨c, ?_⟩
              unfold endFault
              rw [mf_ok (by omega) (by omega) hrok', tail_ok]
              exact if_pos c
            · refine .inr ⟨c, ?_⟩
              unfold endFault
              rw [mf_ok (by omega) (by omega) hrok', tail_ok]
              exact if_neg c
          refine ⟨fun σ' H' => ∃ (dv : V), σ' = [some (.ref a), some (.ref tl), some (.int (0 + (i : Int))), some (.ref p), some (.int (0 + (t : Int))), some (.int (2 + (m : Int))), some (.ref D), some dv, v8, v9, v10, v11] ∧ Same H6 H' ∧ Dp K H' dv (faultD (endFault rs tailRows)), ?_, ?_⟩
          · -- what is due
            refine ⟨_, rfl, D, vs, rs, hearerWords, rfl, eD6, hR6, by omega, by omega, hrok', fun H7 zp zs s7 hz ez hzs => ?_⟩
            refine ⟨zp, _, rfl, .inl (SqL.of ez), rfl, flat_strs zs, _, rfl, ?_⟩
            show if inV (.str "taken") (zs.map V.str) = true then _ else _
            rw [inV_str]
            have hz2 : ("taken" : Str) ∈ zs ↔ Reach rs 1 (.word "taken") := by
              rw [hzs, told_iff (by omega) hfol]
            refine ite2 (fun hc => ?_) (fun hc => ?_)
            · have hrc := hz2.mp (of_decide_eq_true hc)
              rcases eftail with ⟨_, e⟩ | ⟨n, _⟩
              · refine ⟨(by show 2 ≤ sizeLine; decide), fun q hq => ⟨.ref q, rfl, s7.trans (Sb.Same.upd hq), ?_⟩⟩
                rw [e]
                exact .tup (SqT.of upd_same) (.cons (.str _) (.cons .non .nil))
              · exact absurd hrc n
            · have hrc : ¬ Reach rs 1 (.word "taken") := fun z => hc (decide_eq_true (hz2.mpr z))
              rcases eftail with ⟨y, _⟩ | ⟨_, e⟩
              · exact absurd y hrc
              · refine ⟨.non, rfl, s7, ?_⟩
                rw [e]
                exact .non
          · rintro σ' H7 ⟨dv, rfl, s67, hdv⟩
            have s7 : Same H1 H7 := s6.trans s67
            refine ⟨_, rfl, _, rfl, D, tl, vs, _, rs, tailRows, rfl, s67 _ _ eD6, hR6.same s67, s7 _ _ el1, et1.same s7, fun H8 r8 s8 d8 => ?_⟩
            refine ⟨_, rfl, _, _, d8, dp_same s8 hdv, fault_shaped _ _, fault_shaped _ _, false, congrArg (fun b => V.bl (!b)) (eqv_self _ _), iteF ?_⟩
            have s68 : Same H6 H8 := s67.trans s8
            refine ⟨_, rfl, (by show 3 ≤ sizeLine; decide), fun q1 hq1 => ⟨(by show 1 ≤ sizeLine; decide), fun q2 hq2 => ?_⟩⟩
            generalize eh9 : upd (upd H8 q1 _) q2 _ = H9
            have s9 : Same H8 H9 := by rw [← eh9]; exact (Sb.Same.upd hq1).trans (Sb.Same.upd hq2)
            have e9 : H9 q2 = some (.lst [.ref q1]) := by rw [← eh9]; exact upd_same
            have r9 : RowsV H9 [.ref q1] [⟨1, .num 1, .word "done"⟩] := .cons ⟨q1, rfl, by rw [← eh9, upd_ne (ne_of_none upd_same hq2)]; exact upd_same⟩ .nil
            have s69 := s68.trans s9
            refine ⟨D, q2, vs, _, rs, [⟨1, .num 1, .word "done"⟩], rfl, s69 _ _ eD6, hR6.same s69, e9, r9, fun H10 r10 s10 d10 => ?_⟩
            have efw := fault_wrong (by omega) (by omega) hrok'
            refine ⟨(by show 2 ≤ sizeLine; decide), fun q3 hq3 => ?_⟩
            have dq : Dp K (upd H10 q3 (.tup [.str "sender", .int 0])) (.ref q3) (faultD (endFault rs [⟨1, .num 1, .word "done"⟩])) := by
              rw [efw]
              exact .tup (SqT.of upd_same) (.cons (.str _) (.cons (.int _) .nil))
            refine ⟨_, _, dp_same (Sb.Same.upd hq3) d10, dq, fault_shaped _ _, fault_shaped _ _, false, congrArg (fun b => V.bl (!b)) (eqv_self _ _), iteF ?_⟩
            have s610 : Same H6 _ := (s69.trans s10).trans (Sb.Same.upd (o := .tup [.str "sender", .int 0]) hq3)
            exact ⟨_, _, _, _, _, _, _, _, rfl, s6.trans s610, (hB6.mono (by omega)).same s610⟩
      · -- the chains
        rintro σ' H4 ⟨v4, v5, v6, v7, v8, v9, v10, v11, rfl, s4, hB4⟩
        refine ⟨_, rfl, _, rfl, p, _, 7, rfl, hB4, by omega, by decide, by decide, fun H5 d d0 d1 hB5 b5 => ?_⟩
        obtain ⟨m, rfl⟩ : ∃ m : Nat, d = (m : Int) := ⟨d.toNat, by omega⟩
        have s5 : Same H1 H5 := same_but s4 b5 hp1
        refine ⟨_, _, rfl, rfl, p, _, 3 + m, rfl, hB5, by omega, by omega, by omega, fun H6 oa os hB6 b6 hoa eo nd ol orng => ?_⟩
        have s6 : Same H1 H6 := same_but s5 b6 hp1
        have olen : os.length + 2 = 3 + m := by omega
        have orng' : ∀ x, x ∈ os → 2 ≤ x ∧ x < os.length + 2 := fun x hx => by
          have := orng x hx
          omega
        refine ⟨_, rfl, oa, os, "taken", rfl, eo, by omega, fun x hx => (orng' x hx).2, fun H7 q7 xs7 s7 hq7 e7 hR7 => ?_⟩
        have s17 : Same H1 H7 := s6.trans s7
        refine ⟨_, rfl, q7, tl, xs7, _, _, tailRows, rfl, e7, hR7, s17 _ _ el1, et1.same s17, fun H8 r8 s8 d8 => ?_⟩
        have f8 := chain_fault (ns := os) (last := "taken") (by decide +kernel) nd orng' (by omega)
        refine ⟨(by show 2 ≤ sizeLine; decide), fun q9 hq9 => ?_⟩
        have s9 : Same H8 (upd H8 q9 (.tup [.str "body", .non])) := Sb.Same.upd hq9
        have dq : Dp K (upd H8 q9 (.tup [.str "body", .non])) (.ref q9) (faultD (endFault (chainRows os "taken") tailRows)) := by
          rw [f8, if_pos rfl]
          exact .tup (SqT.of upd_same) (.cons (.str _) (.cons .non .nil))
        refine ⟨_, _, dp_same s9 d8, dq, fault_shaped _ _, fault_shaped _ _, false, congrArg (fun b => V.bl (!b)) (eqv_self _ _), iteF ?_⟩
        have s69 : Same H6 (upd H8 q9 (.tup [.str "body", .non])) := (s7.trans s8).trans s9
        have s19 : Same H1 (upd H8 q9 (.tup [.str "body", .non])) := s6.trans s69
        generalize upd H8 q9 _ = H9 at *
        refine ⟨_, rfl, oa, os, "lost", rfl, s69 _ _ eo, by omega, fun x hx => (orng' x hx).2, fun H10 q10 xs10 s10 hq10 e10 hR10 => ?_⟩
        have s110 : Same H1 H10 := s19.trans s10
        refine ⟨_, rfl, q10, tl, xs10, _, _, tailRows, rfl, e10, hR10, s110 _ _ el1, et1.same s110, fun H11 r11 s11 d11 => ?_⟩
        have f11 := chain_fault (ns := os) (last := "lost") (by decide +kernel) nd orng' (by omega)
        rw [f11, if_neg (by decide +kernel)] at d11
        have er : r11 = .non := dp_none d11
        subst er
        refine ⟨rfl, _, rfl, iteNS rfl ?_⟩
        exact ⟨_, _, _, _, _, _, _, _, _, _, rfl, s110.trans s11⟩
    · rintro σ' H2 ⟨v2, v3, v4, v5, v6, v7, v8, v9, v10, v11, rfl, s2⟩
      refine ⟨_, _, rfl, rfl, RgOk.of_le (by decide) (by decide) (by decide) (by decide), fun la hla => ?_⟩
      have erg : rgV 2 100 = natsV ((List.range 98).map (· + 2)) := rg_nats 100
      rw [erg]
      generalize eL : (List.range 98).map (· + 2) = L
      have hLn : L.Nodup := by
        rw [← eL]
        refine List.Pairwise.map _ ?_ List.nodup_range
        intro a b h
        omega
      have hLl : L.length = 98 := by
        rw [← eL]
        simp
      have hLr : ∀ x, x ∈ L → 2 ≤ x ∧ x < L.length + 2 := fun x hx => by
        rw [← eL] at hx
        simp at hx
        omega
      have s3 : Same H1 (upd H2 la (.lst (natsV L))) := s2.trans (Sb.Same.upd hla)
      have el3 : (upd H2 la (.lst (natsV L))) la = some (.lst (natsV L)) := upd_same
      generalize upd H2 la _ = H3 at *
      have fT := chain_fault (ns := L) (last := "taken") (by decide +kernel) hLn hLr (by omega)
      have fL := chain_fault (ns := L) (last := "lost") (by decide +kernel) hLn hLr (by omega)
      rw [if_pos rfl] at fT
      rw [if_neg (by decide +kernel)] at fL
      -- found
      refine ⟨_, rfl, la, L, "taken", rfl, el3, by omega, fun x hx => (hLr x hx).2, fun H4 q4 xs4 s4 hq4 e4 hR4 => ?_⟩
      have s14 : Same H1 H4 := s3.trans s4
      refine ⟨_, rfl, q4, tl, xs4, _, _, tailRows, rfl, e4, hR4, s14 _ _ el1, et1.same s14, fun H5 r1 s5 d1 => ?_⟩
      have s35 : Same H3 H5 := s4.trans s5
      refine ⟨_, rfl, la, L, "lost", rfl, s35 _ _ el3, by omega, fun x hx => (hLr x hx).2, fun H6 q6 xs6 s6 hq6 e6 hR6 => ?_⟩
      have s36 : Same H3 H6 := s35.trans s6
      have s16 : Same H1 H6 := s3.trans s36
      refine ⟨_, rfl, q6, tl, xs6, _, _, tailRows, rfl, e6, hR6, s16 _ _ el1, et1.same s16, fun H7 r2 s7 d2 => ?_⟩
      have d1' := dp_same (s6.trans s7) d1
      rw [fT] at d1'
      rw [fL] at d2
      refine ⟨(by show 2 ≤ sizeLine; decide), fun fa hfa => ?_⟩
      have s17 : Same H1 H7 := s16.trans s7
      have hfa1 : H1 fa = none := s17.free hfa
      have sf : Same H7 (upd H7 fa (.lst [r1, r2])) := Sb.Same.upd hfa
      have ef8 : (upd H7 fa (.lst [r1, r2])) fa = some (.lst [r1, r2]) := upd_same
      have d18 := dp_same sf d1'
      have d28 := dp_same sf d2
      have s18 : Same H1 (upd H7 fa (.lst [r1, r2])) := s17.trans sf
      generalize upd H7 fa _ = H8 at *
      -- the third
      refine ⟨_, rfl, .inl ⟨rfl, _, SqL.of ef8⟩, ?_⟩
      refine ⟨(by show 3 ≤ sizeLine; decide), fun t1 ht1 => ⟨(by show 3 ≤ sizeLine; decide), fun t2 ht2 => ⟨(by show 2 ≤ sizeLine; decide), fun l3 hl3 => ?_⟩⟩⟩
      have sa : Same H8 (upd H8 t1 (.tup (Row.vs ⟨1, .num 1, .word "taken"⟩))) := Sb.Same.upd ht1
      have sb : Same (upd H8 t1 (.tup (Row.vs ⟨1, .num 1, .word "taken"⟩))) (upd (upd H8 t1 (.tup (Row.vs ⟨1, .num 1, .word "taken"⟩))) t2 (.tup (Row.vs ⟨0, .num 1, .num 1⟩))) := Sb.Same.upd ht2
      have sc := Sb.Same.upd (o := .lst [.ref t1, .ref t2]) hl3
      have s89 := (sa.trans sb).trans sc
      refine ⟨_, rfl, l3, tl, [.ref t1, .ref t2], _, rowsA, tailRows, rfl, upd_same, .cons ⟨t1, rfl, (sb.trans sc) _ _ upd_same⟩ (.cons ⟨t2, rfl, sc _ _ upd_same⟩ .nil), s89 _ _ (s18 _ _ el1), et1.same (s18.trans s89), fun H10 r3 s10 d3 => ?_⟩
      have s8A : Same H8 H10 := s89.trans s10
      rw [fault_A] at d3
      have ef10 : H10 fa = some (.lst [r1, r2]) := s8A _ _ ef8
      refine ⟨fa, _, _, rfl, rfl, ef10, (by show 2 < sizeLine; decide), ?_⟩
      have hfaA : ∀ zs, H10 fa ≠ some (.tup zs) := noTup ef10
      have e3 : r3 = .non := dp_none d3
      have e2 : r2 = .non := dp_none d28
      subst e3 e2
      -- what was told first is a tuple: it stands
      obtain ⟨b1, rfl, hb1⟩ := body_tup d18
      have hb10 := sqT_same s8A hb1
      have b11 : But fa H10 (upd H10 fa (.lst [.ref b1, .non, .non])) := But.upd
      have s1B : Same H1 (upd H10 fa (.lst [.ref b1, .non, .non])) := same_but (s18.trans s8A) b11 hfa1
      have hb11 := sqT_but b11 ef10 hb10
      have ef11 : (upd H10 fa (.lst [.ref b1, .non, .non])) fa = some (.lst [.ref b1, .non, .non]) := upd_same
      show (fun H' => _) (upd H10 fa (.lst [.ref b1, .non, .non]))
      generalize upd H10 fa _ = H11 at *
      -- the fourth
      refine ⟨_, rfl, .inl ⟨rfl, _, SqL.of ef11⟩, ?_⟩
      refine ⟨(by show 3 ≤ sizeLine; decide), fun t4 ht4 => ⟨(by show 3 ≤ sizeLine; decide), fun t5 ht5 => ⟨(by show 2 ≤ sizeLine; decide), fun l6 hl6 => ?_⟩⟩⟩
      have ua : Same H11 (upd H11 t4 (.tup (Row.vs ⟨1, .num 1, .word "taken"⟩))) := Sb.Same.upd ht4
      have ub : Same (upd H11 t4 (.tup (Row.vs ⟨1, .num 1, .word "taken"⟩))) (upd (upd H11 t4 (.tup (Row.vs ⟨1, .num 1, .word "taken"⟩))) t5 (.tup (Row.vs ⟨0, .word "lost", .num 0⟩))) := Sb.Same.upd ht5
      have uc := Sb.Same.upd (o := .lst [.ref t4, .ref t5]) hl6
      have u12 := (ua.trans ub).trans uc
      refine ⟨_, rfl, l6, tl, [.ref t4, .ref t5], _, rowsB, tailRows, rfl, upd_same, .cons ⟨t4, rfl, (ub.trans uc) _ _ upd_same⟩ (.cons ⟨t5, rfl, uc _ _ upd_same⟩ .nil), u12 _ _ (s1B _ _ el1), et1.same (s1B.trans u12), fun H13 r4 u13 d4 => ?_⟩
      have uAll : Same H11 H13 := u12.trans u13
      rw [fault_B] at d4
      obtain ⟨b4, rfl, hb4⟩ := body_tup d4
      have ef13 := uAll _ _ ef11
      have hb13 := sqT_same uAll hb11
      refine ⟨fa, _, _, rfl, rfl, ef13, (by show 3 < sizeLine; decide), ?_⟩
      have b14 : But fa H13 (upd H13 fa (.lst [.ref b1, .non, .non, .ref b4])) := But.upd
      have hb1e := sqT_but b14 ef13 hb13
      have hb4e := sqT_but b14 ef13 hb4
      have ef14 : (upd H13 fa (.lst [.ref b1, .non, .non, .ref b4])) fa = some (.lst [.ref b1, .non, .non, .ref b4]) := upd_same
      show (fun H' => _) (upd H13 fa (.lst [.ref b1, .non, .non, .ref b4]))
      generalize upd H13 fa _ = H14 at *
      -- the end
      refine ⟨_, rfl, (by show 2 ≤ sizeLine; decide), fun x1 hx1 => ⟨(by show 2 ≤ sizeLine; decide), fun x2 hx2 => ⟨(by show 4 ≤ sizeLine; decide), fun x3 hx3 => ?_⟩⟩⟩
      have w1 : Same H14 (upd H14 x1 (.tup [.str "body", .non])) := Sb.Same.upd hx1
      have w2 : Same (upd H14 x1 (.tup [.str "body", .non])) (upd (upd H14 x1 (.tup [.str "body", .non])) x2 (.tup [.str "body", .non])) := Sb.Same.upd hx2
      have w3 := Sb.Same.upd (o := .lst [.ref x1, .non, .non, .ref x2]) hx3
      have w := (w1.trans w2).trans w3
      have sh : SeqAt.shaped (.list [.tuple [.str "body", .none], .none, .none, .tuple [.str "body", .none]]) = true := by decide +kernel
      have bt : ∀ {H' : Hp} {x : Addr}, SqT K H' x [.str "body", .non] → Dp K H' (.ref x) (.tuple [.str "body", .none]) := fun h => .tup h (.cons (.str _) (.cons .non .nil))
      refine ⟨.list [.tuple [.str "body", .none], .none, .none, .tuple [.str "body", .none]], .list [.tuple [.str "body", .none], .none, .none, .tuple [.str "body", .none]],
        .lst (SqL.of (w _ _ ef14)) (.cons (bt (sqT_same w hb1e)) (.cons .non (.cons .non (.cons (bt (sqT_same w hb4e)) .nil)))),
        .lst (SqL.of upd_same) (.cons (bt (SqT.of ((w2.trans w3) _ _ upd_same))) (.cons .non (.cons .non (.cons (bt (SqT.of (w3 _ _ upd_same))) .nil)))), sh, sh, ?_⟩
      rw [SeqAt.eqv_refl _ (SeqAt.canLay_of_shaped sh)]
      exact k _

end K03

set_option Elab.async false
set_option linter.all false
set_option maxRecDepth 100000
set_option maxHeartbeats 4000000
namespace K03
open PySem L2 Sb
theorem all_mk {l : PySem.W.OpenLaw} {w : World} {K : PySem.W.Frag} {h : Heap} {mg : Str → Option Value} {fa : Addr} (X : K.In h) (G : h.Ns mainGlobals mg) (hfa : mg "law" = some (.ref fa))
    {f1 : Addr} {oc1 kV1 dc1 pm1 cd1 ct1 : Value} {od1 an1 : Option Addr} {sl1 : Array (Option Value)}
    {f2 : Addr} {oc2 kV2 dc2 pm2 cd2 ct2 : Value} {od2 an2 : Option Addr} {sl2 : Array (Option Value)}
    {f3 : Addr} {oc3 kV3 dc3 pm3 cd3 ct3 : Value} {od3 an3 : Option Addr} {sl3 : Array (Option Value)}
    {f4 : Addr} {oc4 kV4 dc4 pm4 cd4 ct4 : Value} {od4 an4 : Option Addr} {sl4 : Array (Option Value)}
    {f5 : Addr} {oc5 kV5 dc5 pm5 cd5 ct5 : Value} {od5 an5 : Option Addr} {sl5 : Array (Option Value)}
    {f6 : Addr} {oc6 kV6 dc6 pm6 cd6 ct6 : Value} {od6 an6 : Option Addr} {sl6 : Array (Option Value)}
    {f7 : Addr} {oc7 kV7 dc7 pm7 cd7 ct7 : Value} {od7 an7 : Option Addr} {sl7 : Array (Option Value)}
    {f8 : Addr} {oc8 kV8 dc8 pm8 cd8 ct8 : Value} {od8 an8 : Option Addr} {sl8 : Array (Option Value)}
    {f9 : Addr} {oc9 kV9 dc9 pm9 cd9 ct9 : Value} {od9 an9 : Option Addr} {sl9 : Array (Option Value)}
    {f10 : Addr} {oc10 kV10 dc10 pm10 cd10 ct10 : Value} {od10 an10 : Option Addr} {sl10 : Array (Option Value)}
    {f11 : Addr} {oc11 kV11 dc11 pm11 cd11 ct11 : Value} {od11 an11 : Option Addr} {sl11 : Array (Option Value)}
    {f12 : Addr} {oc12 kV12 dc12 pm12 cd12 ct12 : Value} {od12 an12 : Option Addr} {sl12 : Array (Option Value)}
    {f13 : Addr} {oc13 kV13 dc13 pm13 cd13 ct13 : Value} {od13 an13 : Option Addr} {sl13 : Array (Option Value)}
    {f14 : Addr} {oc14 kV14 dc14 pm14 cd14 ct14 : Value} {od14 an14 : Option Addr} {sl14 : Array (Option Value)}
    {f15 : Addr} {oc15 kV15 dc15 pm15 cd15 ct15 : Value} {od15 an15 : Option Addr} {sl15 : Array (Option Value)}
    {f16 : Addr} {oc16 kV16 dc16 pm16 cd16 ct16 : Value} {od16 an16 : Option Addr} {sl16 : Array (Option Value)}
    {CBadEnd CEnd hA sA : Addr} {nm q : Str} {N : Addr} {bs : List Value} {sn : List Str} {sub : List Value} {ab : Bool} {col : Option Bool} {dd : Option Addr} {m0 m1 m2 m3 m5 : Option Value} {mt : Tok}
    {hd sd : Option Addr} {ht1 ht2 st1 st2 : Tok} {hn sn' : Nat} {hsl ssl : Array (Option Value)}
    (a1 : PySem.W.findIn K (.ref CBadEnd) "__init__" = some (some (.ref f1))) (i1 : PySem.W.isFn K (.ref f1) = true)
    (l1 : K.lookup f1 = some ⟨oc1, od1, .func (PySem.W.fnOf "__init__" "BadEnd.__init__" (defArgs sBadEnd_init) (defBody sBadEnd_init) (defScope sBadEnd_init) .none kV1 dc1 pm1 an1 cd1 ct1), sl1⟩) (c1 : PySem.W.codeIn K cd1 "BadEnd.__init__" = true) (k1 : PySem.W.keepIn K (.ref f1) = true)
    (a2 : PySem.W.nsIn K mainGlobals "is_number" = some (some (.ref f2)))
    (l2 : K.lookup f2 = some ⟨oc2, od2, .func (PySem.W.fnOf "is_number" "is_number" (defArgs sis_number) (defBody sis_number) (defScope sis_number) .none kV2 dc2 pm2 an2 cd2 ct2), sl2⟩) (c2 : PySem.W.codeIn K cd2 "is_number" = true) (k2 : PySem.W.keepIn K (.ref f2) = true)
    (a3 : PySem.W.nsIn K mainGlobals "is_follower" = some (some (.ref f3)))
    (l3 : K.lookup f3 = some ⟨oc3, od3, .func (PySem.W.fnOf "is_follower" "is_follower" (defArgs sis_follower) (defBody sis_follower) (defScope sis_follower) .none kV3 dc3 pm3 an3 cd3 ct3), sl3⟩) (c3 : PySem.W.codeIn K cd3 "is_follower" = true) (k3 : PySem.W.keepIn K (.ref f3) = true)
    (a4 : PySem.W.nsIn K mainGlobals "is_row" = some (some (.ref f4)))
    (l4 : K.lookup f4 = some ⟨oc4, od4, .func (PySem.W.fnOf "is_row" "is_row" (defArgs sis_row) (defBody sis_row) (defScope sis_row) .none kV4 dc4 pm4 an4 cd4 ct4), sl4⟩) (c4 : PySem.W.codeIn K cd4 "is_row" = true) (k4 : PySem.W.keepIn K (.ref f4) = true)
    (a5 : PySem.W.nsIn K mainGlobals "reached" = some (some (.ref f5)))
    (l5 : K.lookup f5 = some ⟨oc5, od5, .func (PySem.W.fnOf "reached" "reached" (defArgs sreached) (defBody sreached) (defScope sreached) .none kV5 dc5 pm5 an5 cd5 ct5), sl5⟩) (c5 : PySem.W.codeIn K cd5 "reached" = true) (k5 : PySem.W.keepIn K (.ref f5) = true)
    (a6 : PySem.W.nsIn K mainGlobals "check_machine" = some (some (.ref f6)))
    (l6 : K.lookup f6 = some ⟨oc6, od6, .func (PySem.W.fnOf "check_machine" "check_machine" (defArgs scheck_machine) (defBody scheck_machine) (defScope scheck_machine) .none kV6 dc6 pm6 an6 cd6 ct6), sl6⟩) (c6 : PySem.W.codeIn K cd6 "check_machine" = true) (k6 : PySem.W.keepIn K (.ref f6) = true)
    (a7 : PySem.W.nsIn K mainGlobals "numbered_rows" = some (some (.ref f7)))
    (l7 : K.lookup f7 = some ⟨oc7, od7, .func (PySem.W.fnOf "numbered_rows" "numbered_rows" (defArgs snumbered_rows) (defBody snumbered_rows) (defScope snumbered_rows) .none kV7 dc7 pm7 an7 cd7 ct7), sl7⟩) (c7 : PySem.W.codeIn K cd7 "numbered_rows" = true) (k7 : PySem.W.keepIn K (.ref f7) = true)
    (a8 : PySem.W.findIn K (.ref CEnd) "__init__" = some (some (.ref f8))) (i8 : PySem.W.isFn K (.ref f8) = true)
    (l8 : K.lookup f8 = some ⟨oc8, od8, .func (PySem.W.fnOf "__init__" "End.__init__" (defArgs sEnd_init) (defBody sEnd_init) (defScope sEnd_init) .none kV8 dc8 pm8 an8 cd8 ct8), sl8⟩) (c8 : PySem.W.codeIn K cd8 "End.__init__" = true) (k8 : PySem.W.keepIn K (.ref f8) = true)
    (a9 : PySem.W.nsIn K mainGlobals "_law_bag" = some (some (.ref f9)))
    (l9 : K.lookup f9 = some ⟨oc9, od9, .func (PySem.W.fnOf "_law_bag" "_law_bag" (defArgs sL_bag) (defBody sL_bag) (defScope sL_bag) .none kV9 dc9 pm9 an9 cd9 ct9), sl9⟩) (c9 : PySem.W.codeIn K cd9 "_law_bag" = true) (k9 : PySem.W.keepIn K (.ref f9) = true)
    (a10 : PySem.W.nsIn K mainGlobals "_law_take" = some (some (.ref f10)))
    (l10 : K.lookup f10 = some ⟨oc10, od10, .func (PySem.W.fnOf "_law_take" "_law_take" (defArgs sL_take) (defBody sL_take) (defScope sL_take) .none kV10 dc10 pm10 an10 cd10 ct10), sl10⟩) (c10 : PySem.W.codeIn K cd10 "_law_take" = true) (k10 : PySem.W.keepIn K (.ref f10) = true)
    (a11 : PySem.W.nsIn K mainGlobals "_law_place" = some (some (.ref f11)))
    (l11 : K.lookup f11 = some ⟨oc11, od11, .func (PySem.W.fnOf "_law_place" "_law_place" (defArgs sL_place) (defBody sL_place) (defScope sL_place) .none kV11 dc11 pm11 an11 cd11 ct11), sl11⟩) (c11 : PySem.W.codeIn K cd11 "_law_place" = true) (k11 : PySem.W.keepIn K (.ref f11) = true)
    (a12 : PySem.W.nsIn K mainGlobals "_law_ways" = some (some (.ref f12)))
    (l12 : K.lookup f12 = some ⟨oc12, od12, .func (PySem.W.fnOf "_law_ways" "_law_ways" (defArgs sL_ways) (defBody sL_ways) (defScope sL_ways) .none kV12 dc12 pm12 an12 cd12 ct12), sl12⟩) (c12 : PySem.W.codeIn K cd12 "_law_ways" = true) (k12 : PySem.W.keepIn K (.ref f12) = true)
    (a13 : PySem.W.nsIn K mainGlobals "_law_told" = some (some (.ref f13)))
    (l13 : K.lookup f13 = some ⟨oc13, od13, .func (PySem.W.fnOf "_law_told" "_law_told" (defArgs sL_told) (defBody sL_told) (defScope sL_told) .none kV13 dc13 pm13 an13 cd13 ct13), sl13⟩) (c13 : PySem.W.codeIn K cd13 "_law_told" = true) (k13 : PySem.W.keepIn K (.ref f13) = true)
    (a14 : PySem.W.nsIn K mainGlobals "_law_chain" = some (some (.ref f14)))
    (l14 : K.lookup f14 = some ⟨oc14, od14, .func (PySem.W.fnOf "_law_chain" "_law_chain" (defArgs sL_chain) (defBody sL_chain) (defScope sL_chain) .none kV14 dc14 pm14 an14 cd14 ct14), sl14⟩) (c14 : PySem.W.codeIn K cd14 "_law_chain" = true) (k14 : PySem.W.keepIn K (.ref f14) = true)
    (a15 : PySem.W.nsIn K mainGlobals "_law_mixed" = some (some (.ref f15)))
    (l15 : K.lookup f15 = some ⟨oc15, od15, .func (PySem.W.fnOf "_law_mixed" "_law_mixed" (defArgs sL_mixed) (defBody sL_mixed) (defScope sL_mixed) .none kV15 dc15 pm15 an15 cd15 ct15), sl15⟩) (c15 : PySem.W.codeIn K cd15 "_law_mixed" = true) (k15 : PySem.W.keepIn K (.ref f15) = true)
    (a16 : PySem.W.nsIn K mainGlobals "law" = some (some (.ref f16)))
    (l16 : K.lookup f16 = some ⟨oc16, od16, .func (PySem.W.fnOf "law" "law" (defArgs slaw) (defBody slaw) (defScope slaw) .none kV16 dc16 pm16 an16 cd16 ct16), sl16⟩) (c16 : PySem.W.codeIn K cd16 "law" = true) (k16 : PySem.W.keepIn K (.ref f16) = true)
    (z_int : PySem.W.nsIn K mainGlobals "int" = some none)
    (z_len : PySem.W.nsIn K mainGlobals "len" = some none)
    (z_abs : PySem.W.nsIn K mainGlobals "abs" = some none)
    (z_isinstance : PySem.W.nsIn K mainGlobals "isinstance" = some none)
    (z_bool : PySem.W.nsIn K mainGlobals "bool" = some none)
    (z_str : PySem.W.nsIn K mainGlobals "str" = some none)
    (z_tuple : PySem.W.nsIn K mainGlobals "tuple" = some none)
    (z_list : PySem.W.nsIn K mainGlobals "list" = some none)
    (z_enumerate : PySem.W.nsIn K mainGlobals "enumerate" = some none)
    (z_range : PySem.W.nsIn K mainGlobals "range" = some none)
    (z_max : PySem.W.nsIn K mainGlobals "max" = some none)
    (z_min : PySem.W.nsIn K mainGlobals "min" = some none)
    (xC : PySem.W.nsIn K mainGlobals "BadEnd" = some (some (.ref CBadEnd))) (xD : PySem.W.nsIn K mainGlobals "End" = some (some (.ref CEnd)))
    (xL : K.lookup CBadEnd = some (excClassObj nm q CBadEnd N bs [.type "ValueError", .type "Exception", .type "BaseException", .type "object"] true sn sub ab col dd m0 m1 m2 m3 m5 "ValueError.__new__"))
    (xsa : PySem.W.findIn K (.ref CBadEnd) "__setattr__" = some (some (.builtin "object.__setattr__"))) (xga : PySem.W.findIn K (.ref CBadEnd) "__getattribute__" = some (some (.builtin "BaseException.__getattribute__"))) (xgg : PySem.W.findIn K (.ref CBadEnd) "__getattr__" = some none)
    (xn1 : PySem.W.findIn K (.ref CBadEnd) "part" = some none) (xn2 : PySem.W.findIn K (.ref CBadEnd) "row" = some none) (xt1 : PySem.W.typeIn K (.ref f1) = some (.type "function"))
    (xkC : PySem.W.keepIn K (.ref CBadEnd) = true) (xeC : PySem.W.subIn K (.ref CBadEnd) (.type "BaseException") = some true) (xtC : PySem.W.typeIn K (.ref CBadEnd) = some (.type "type")) (xhC : PySem.W.hasDictIn K CBadEnd = true)
    (xiC : PySem.W.isClsIn K CBadEnd = true) (xsC : PySem.W.subIn K (.ref CBadEnd) (.ref CBadEnd) = some true)
    (ypg : PySem.W.plainGet K CEnd Str.empty = true) (yhd : PySem.W.hasDictIn K CEnd = true) (ypo : PySem.W.plainOver K CEnd = true) (ysa : PySem.W.findIn K (.ref CEnd) "__setattr__" = some (some (.builtin "object.__setattr__"))) (ymk : PySem.W.makesIn K CEnd = true) (ykc : PySem.W.keepIn K (.ref CEnd) = true)
    (yn1 : PySem.W.findIn K (.ref CEnd) "hearer_rows" = some none) (yn2 : PySem.W.findIn K (.ref CEnd) "sender_rows" = some none) (yn3 : PySem.W.findIn K (.ref CEnd) "rows" = some none)
    (yrd : PySem.W.readsIn K CEnd (.type "type") = true) (yga : PySem.W.specialIn K (.ref CEnd) "__getattribute__" = some (some (.builtin "type.__getattribute__"))) (yat : PySem.W.findCls K (.ref CEnd) (.type "type") "MOST" = some (.val (.int 100 mt)))
    (wh : PySem.W.nsIn K mainGlobals "HEARER_WORDS" = some (some (.ref hA))) (ws : PySem.W.nsIn K mainGlobals "SENDER_WORDS" = some (some (.ref sA)))
    (whl : K.lookup hA = some ⟨.type "tuple", hd, .seq #[.str "taken" ht1, .str "lost" ht2] hn, hsl⟩) (wsl : K.lookup sA = some ⟨.type "tuple", sd, .seq #[.str "done" st1, .str "again" st2] sn', ssl⟩) :
    ∃ fd : FuncData, (∀ (s : Shared) (v : Value), BindsTo s fd ⟨[v], []⟩ [("_law_script", v)]) ∧ ∀ base : Heap, K.In base → base.Ns mainGlobals mg → FnOk l.prog w K mg base CX0 9 fa fd ["_law_script"] (spLaw K) := by
  have e := hfa.symm.trans (PySem.W.mg_of X G a16)
  cases e
  have F1 := fun_mk (st := sBadEnd_init) l1 c1 k1
  have B1 := F1.binds (ps := ["self", "part", "row"]) fun _ _ _ _ _ _ us hl => match us, hl with | [_, _, _], _ => rfl
  have F2 := fun_mk (st := sis_number) l2 c2 k2
  have B2 := F2.binds (ps := ["value"]) fun _ _ _ _ _ _ us hl => match us, hl with | [_], _ => rfl
  have F3 := fun_mk (st := sis_follower) l3 c3 k3
  have B3 := F3.binds (ps := ["value", "size", "words"]) fun _ _ _ _ _ _ us hl => match us, hl with | [_, _, _], _ => rfl
  have F4 := fun_mk (st := sis_row) l4 c4 k4
  have B4 := F4.binds (ps := ["value", "size", "words"]) fun _ _ _ _ _ _ us hl => match us, hl with | [_, _, _], _ => rfl
  have F5 := fun_mk (st := sreached) l5 c5 k5
  have B5 := F5.binds (ps := ["rows", "begin"]) fun _ _ _ _ _ _ us hl => match us, hl with | [_, _], _ => rfl
  have F6 := fun_mk (st := scheck_machine) l6 c6 k6
  have B6 := F6.binds (ps := ["part", "machine", "fewest", "most", "words"]) fun _ _ _ _ _ _ us hl => match us, hl with | [_, _, _, _, _], _ => rfl
  have F7 := fun_mk (st := snumbered_rows) l7 c7 k7
  have B7 := F7.binds (ps := ["part", "machine"]) fun _ _ _ _ _ _ us hl => match us, hl with | [_, _], _ => rfl
  have F8 := fun_mk (st := sEnd_init) l8 c8 k8
  have B8 := F8.binds (ps := ["self", "hearer", "sender"]) fun _ _ _ _ _ _ us hl => match us, hl with | [_, _, _], _ => rfl
  have F9 := fun_mk (st := sL_bag) l9 c9 k9
  have B9 := F9.binds (ps := ["_law_script", "_law_at"]) fun _ _ _ _ _ _ us hl => match us, hl with | [_, _], _ => rfl
  have F10 := fun_mk (st := sL_take) l10 c10 k10
  have B10 := F10.binds (ps := ["_law_bag_here", "_law_many"]) fun _ _ _ _ _ _ us hl => match us, hl with | [_, _], _ => rfl
  have F11 := fun_mk (st := sL_place) l11 c11 k11
  have B11 := F11.binds (ps := ["_law_bag_here", "_law_many"]) fun _ _ _ _ _ _ us hl => match us, hl with | [_, _], _ => rfl
  have F12 := fun_mk (st := sL_ways) l12 c12 k12
  have B12 := F12.binds (ps := ["_law_rows"]) fun _ _ _ _ _ _ us hl => match us, hl with | [_], _ => rfl
  have F13 := fun_mk (st := sL_told) l13 c13 k13
  have B13 := F13.binds (ps := ["_law_hearer", "_law_sender"]) fun _ _ _ _ _ _ us hl => match us, hl with | [_, _], _ => rfl
  have F14 := fun_mk (st := sL_chain) l14 c14 k14
  have B14 := F14.binds (ps := ["_law_order", "_law_last"]) fun _ _ _ _ _ _ us hl => match us, hl with | [_, _], _ => rfl
  have F15 := fun_mk (st := sL_mixed) l15 c15 k15
  have B15 := F15.binds (ps := ["_law_bag_here", "_law_many"]) fun _ _ _ _ _ _ us hl => match us, hl with | [_, _], _ => rfl
  have F16 := fun_mk (st := slaw) l16 c16 k16
  have B16 := F16.binds (ps := ["_law_script"]) fun _ _ _ _ _ _ us hl => match us, hl with | [_], _ => rfl
  refine ⟨PySem.W.fnOf "law" "law" (defArgs slaw) (defBody slaw) (defScope slaw) .none kV16 dc16 pm16 an16 cd16 ct16, fun s v => .of_eq rfl, fun base _ _ => ?_⟩
  have T : Txt K mg := ⟨PySem.W.mg_none_of X G z_int, PySem.W.mg_none_of X G z_len, PySem.W.mg_none_of X G z_abs, PySem.W.mg_none_of X G z_isinstance, PySem.W.mg_none_of X G z_bool, PySem.W.mg_none_of X G z_str, PySem.W.mg_none_of X G z_tuple, PySem.W.mg_none_of X G z_list, PySem.W.mg_none_of X G z_enumerate, PySem.W.mg_none_of X G z_range, PySem.W.mg_none_of X G z_max, PySem.W.mg_none_of X G z_min⟩
  have TE : TxtE K mg CEnd hA sA := { T with
    m_End := PySem.W.mg_of X G xD, m_HEARER_WORDS := PySem.W.mg_of X G wh, m_SENDER_WORDS := PySem.W.mg_of X G ws,
    hW := fun H => .inr ⟨_, _, _, whl, rfl, rfl, (by show 2 ≤ sizeLine; decide), .cons ⟨_, rfl⟩ (.cons ⟨_, rfl⟩ .nil)⟩, sW := fun H => .inr ⟨_, _, _, wsl, rfl, rfl, (by show 2 ≤ sizeLine; decide), .cons ⟨_, rfl⟩ (.cons ⟨_, rfl⟩ .nil)⟩,
    clD := ⟨ypg, yhd, ypo, ysa⟩, n1 := yn1, n2 := yn2, n3 := yn3, most := ⟨_, _, ⟨yrd, yga⟩, ⟨yat, ⟨_, rfl⟩⟩⟩ }
  have te : PySem.W.exmOne K (.ref CBadEnd) (.ref CBadEnd) = some true := by
    have e1 : (PySem.W.subIn K (.ref CBadEnd) (.type "BaseException") == some true) = true := by rw [xeC] <;> rfl
    have h2' : (PySem.W.clsIn K CBadEnd).isSome = true := xiC
    have e2 : ((PySem.W.clsIn K CBadEnd).isSome && PySem.W.typeIn K (.ref CBadEnd) == some (.type "type")) = true := by rw [h2', xtC] <;> rfl
    unfold PySem.W.exmOne
    rw [if_pos e1]
    unfold PySem.W.kitCls
    dsimp only
    rw [if_pos e2]
    exact xsC
  have oc : OexC K CBadEnd := ⟨⟨nm, q, N, bs, _, sn, sub, ab, col, dd, m0, m1, m2, m3, m5, xL, by decide +kernel⟩, xsa, xeC, xtC, xkC⟩
  have BT : BadTxt K mg CBadEnd := ⟨⟨xga, xgg, xeC, xhC⟩, xn1, xn2, te, PySem.W.mg_of X G xC⟩
  have O1 : Ox l.prog w K mg base 1 "BadEnd" CBadEnd f1 _ ["self", "part", "row"] (spBadInit CBadEnd) := ⟨oc, a1, xt1, ok_bad F1 oc xn1 xn2, B1, PySem.W.mg_of X G xC⟩
  have G2 : Fx l.prog w K mg base CX0 1 "is_number" f2 _ ["value"] spNum := ⟨ok_num F2 T, PySem.W.mg_of X G a2, k2, B2⟩
  have G3 : Fx l.prog w K mg base CX0 2 "is_follower" f3 _ ["value", "size", "words"] (spFol K) := ⟨ok_fol F3 T G2, PySem.W.mg_of X G a3, k3, B3⟩
  have G4 : Fx l.prog w K mg base CX0 3 "is_row" f4 _ ["value", "size", "words"] (spRow K) := ⟨ok_row F4 T G2 G3, PySem.W.mg_of X G a4, k4, B4⟩
  have G5 : Fx l.prog w K mg base CX0 2 "reached" f5 _ ["rows", "begin"] (spReach K) := ⟨ok_reach F5 T G2, PySem.W.mg_of X G a5, k5, B5⟩
  have G6 : Fx l.prog w K mg base (L2.CX l.prog w) 4 "check_machine" f6 _ ["part", "machine", "fewest", "most", "words"] (spCheck K CBadEnd) := ⟨ok_check F6 T G4 O1, PySem.W.mg_of X G a6, k6, B6⟩
  have G7 : Fx l.prog w K mg base CX0 1 "numbered_rows" f7 _ ["part", "machine"] spNumb := ⟨ok_numb F7 T, PySem.W.mg_of X G a7, k7, B7⟩
  have M8 : Mx l.prog w K mg base (L2.CX l.prog w) 5 "End" CEnd f8 _ ["self", "hearer", "sender"] (spEnd CBadEnd CEnd) := ⟨⟨ymk, a8, i8, ykc⟩, ok_end F8 TE G6 G5 G7 O1, PySem.W.mg_of X G xD, B8⟩
  have G9 : Fx l.prog w K mg base CX0 1 "_law_bag" f9 _ ["_law_script", "_law_at"] (spBag K) := ⟨ok_bag F9 T, PySem.W.mg_of X G a9, k9, B9⟩
  have G10 : Fx l.prog w K mg base CX0 1 "_law_take" f10 _ ["_law_bag_here", "_law_many"] spTake := ⟨ok_take F10 T, PySem.W.mg_of X G a10, k10, B10⟩
  have G11 : Fx l.prog w K mg base CX0 2 "_law_place" f11 _ ["_law_bag_here", "_law_many"] spPlace := ⟨ok_place F11 T G10, PySem.W.mg_of X G a11, k11, B11⟩
  have G12 : Fx l.prog w K mg base CX0 1 "_law_ways" f12 _ ["_law_rows"] spWays := ⟨ok_ways F12 T, PySem.W.mg_of X G a12, k12, B12⟩
  have G13 : Fx l.prog w K mg base CX0 7 "_law_told" f13 _ ["_law_hearer", "_law_sender"] (spTellD K) := ⟨(ok_told F13 BT M8).imp told_tells, PySem.W.mg_of X G a13, k13, B13⟩
  have G14 : Fx l.prog w K mg base CX0 1 "_law_chain" f14 _ ["_law_order", "_law_last"] spChain := ⟨ok_chain F14 T, PySem.W.mg_of X G a14, k14, B14⟩
  have G15 : Fx l.prog w K mg base CX0 2 "_law_mixed" f15 _ ["_law_bag_here", "_law_many"] spMixed := ⟨ok_mixed F15 T G10, PySem.W.mg_of X G a15, k15, B15⟩
  exact ok_law F16 T G9 G10 G11 G12 G13 G14 G15

end K03
open PySem PySem.W PyProof.Rows
set_option maxRecDepth 100000 in
set_option maxHeartbeats 0 in
theorem PySem.Challenge.cw_strongbit_k03_bodies_taken_refused_holds : PySem.Challenge.rw_strongbit_k03_bodies_taken_refused.Holds := by
  w_on; o_law; k_head; (case hw => w_witness2)
  k_fill
  refine L2.walk_of (l := PySem.Challenge.rw_strongbit_k03_bodies_taken_refused) (n := 63) (k := 9) (x := "_law_script") (CX := fun _ => L2.CX0) (sp := fun w => K03.spLaw _) rfl (by decide) rfl ⟨rfl, by decide, by decide⟩ (fun w h Y => PySem.W.kIn_of Y) ?F (fun _ _ a ns hl _ hS => ⟨a, ns, rfl, hS, hl, fun _ => rfl⟩) (fun _ _ _ _ _ h => h)
  case F =>
    intro w mg fa h KX G hmg
    refine' K03.all_mk KX G hmg ?a1 ?i1 ?l1 ?c1 ?k1 ?a2 ?l2 ?c2 ?k2 ?a3 ?l3 ?c3 ?k3 ?a4 ?l4 ?c4 ?k4 ?a5 ?l5 ?c5 ?k5 ?a6 ?l6 ?c6 ?k6 ?a7 ?l7 ?c7 ?k7 ?a8 ?i8 ?l8 ?c8 ?k8 ?a9 ?l9 ?c9 ?k9 ?a10 ?l10 ?c10 ?k10 ?a11 ?l11 ?c11 ?k11 ?a12 ?l12 ?c12 ?k12 ?a13 ?l13 ?c13 ?k13 ?a14 ?l14 ?c14 ?k14 ?a15 ?l15 ?c15 ?k15 ?a16 ?l16 ?c16 ?k16 ?z_int ?z_len ?z_abs ?z_isinstance ?z_bool ?z_str ?z_tuple ?z_list ?z_enumerate ?z_range ?z_max ?z_min ?xC ?xD ?xL ?xsa ?xga ?xgg ?xn1 ?xn2 ?xt1 ?xkC ?xeC ?xtC ?xhC ?xiC ?xsC ?ypg ?yhd ?ypo ?ysa ?ymk ?ykc ?yn1 ?yn2 ?yn3 ?yrd ?yga ?yat ?wh ?ws ?whl ?wsl
    (case xC => k_is)
    (case xD => k_is)
    (case a1 => k_is)
    (case i1 => k_is)
    (case l1 => k_is)
    (case c1 => k_is)
    (case k1 => k_is)
    (case a2 => k_is)
    (case l2 => k_is)
    (case c2 => k_is)
    (case k2 => k_is)
    (case a3 => k_is)
    (case l3 => k_is)
    (case c3 => k_is)
    (case k3 => k_is)
    (case a4 => k_is)
    (case l4 => k_is)
    (case c4 => k_is)
    (case k4 => k_is)
    (case a5 => k_is)
    (case l5 => k_is)
    (case c5 => k_is)
    (case k5 => k_is)
    (case a6 => k_is)
    (case l6 => k_is)
    (case c6 => k_is)
    (case k6 => k_is)
    (case a7 => k_is)
    (case l7 => k_is)
    (case c7 => k_is)
    (case k7 => k_is)
    (case a8 => k_is)
    (case i8 => k_is)
    (case l8 => k_is)
    (case c8 => k_is)
    (case k8 => k_is)
    (case a9 => k_is)
    (case l9 => k_is)
    (case c9 => k_is)
    (case k9 => k_is)
    (case a10 => k_is)
    (case l10 => k_is)
    (case c10 => k_is)
    (case k10 => k_is)
    (case a11 => k_is)
    (case l11 => k_is)
    (case c11 => k_is)
    (case k11 => k_is)
    (case a12 => k_is)
    (case l12 => k_is)
    (case c12 => k_is)
    (case k12 => k_is)
    (case a13 => k_is)
    (case l13 => k_is)
    (case c13 => k_is)
    (case k13 => k_is)
    (case a14 => k_is)
    (case l14 => k_is)
    (case c14 => k_is)
    (case k14 => k_is)
    (case a15 => k_is)
    (case l15 => k_is)
    (case c15 => k_is)
    (case k15 => k_is)
    (case a16 => k_is)
    (case l16 => k_is)
    (case c16 => k_is)
    (case k16 => k_is)
    (case z_int => k_is)
    (case z_len => k_is)
    (case z_abs => k_is)
    (case z_isinstance => k_is)
    (case z_bool => k_is)
    (case z_str => k_is)
    (case z_tuple => k_is)
    (case z_list => k_is)
    (case z_enumerate => k_is)
    (case z_range => k_is)
    (case z_max => k_is)
    (case z_min => k_is)
    (case xL => k_is)
    (case xsa => k_is)
    (case xga => k_is)
    (case xgg => k_is)
    (case xn1 => k_is)
    (case xn2 => k_is)
    (case xt1 => k_is)
    (case xkC => k_is)
    (case xeC => k_is)
    (case xtC => k_is)
    (case xhC => k_is)
    (case xiC => k_is)
    (case xsC => k_is)
    (case ypg => k_is)
    (case yhd => k_is)
    (case ypo => k_is)
    (case ysa => k_is)
    (case ymk => k_is)
    (case ykc => k_is)
    (case yn1 => k_is)
    (case yn2 => k_is)
    (case yn3 => k_is)
    (case yrd => k_is)
    (case yga => k_is)
    (case yat => k_is)
    (case wh => k_is)
    (case ws => k_is)
    (case whl => k_is)
    (case wsl => k_is)

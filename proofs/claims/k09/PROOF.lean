import PyProof.Rows.All
import Wide.All
import OpenK.AllK
import Wide.FinOn
import HandS.ForMost
import HandS.ForExc
import HandS.ExcInit
import HandS.ExcField
import HandS.IsInst
import HandS.ClsMeth
import HandS.Walk
import HandS.Conv
import HandS.Style
import HandS.TupAny
import HandS.Property
import HandS.MakeKwOnly
import HandS.Deep
import HandS.Codes
import PyProof.ReprReads
import PyProof.ReprRoads
import HandS.Ends
import PySem.Challenge.RW_strongbit_k09_what_ends_show
set_option Elab.async false
set_option linter.all false
set_option maxRecDepth 100000
set_option maxHeartbeats 2000000
/-! Sb: what the proofs of the ends' laws share: a rule for powers, the bag of draws. -/
namespace Sb
open PySem L2
variable {X : Cx}
theorem op_powB : OpR X (binaryOp .Pow) (rI (fun i j => 0 ≤ j ∧ (Builtin.Int.intBits i : Int) * j ≤ 2 ^ 27) fun i j => .int (i ^ j.toNat)) :=
  opI fun _ _ _ _ _ _ _ c q => PyProof.Rows.pow_int c.1 c.2 q
theorem pow_fits {i : Int} {k : Nat} {j : Int} (h : i.natAbs < 2 ^ k) (h0 : 0 ≤ j) (hj : (k : Int) * j ≤ 2 ^ 27) : 0 ≤ j ∧ (Builtin.Int.intBits i : Int) * j ≤ 2 ^ 27 := by
  have hb : Builtin.Int.intBits i ≤ k := PyProof.Rows.intBits_le h
  refine ⟨h0, Int.le_trans (Int.mul_le_mul_of_nonneg_right (by omega) h0) hj⟩
/-- a def of the text: what it keeps, its name, how it binds -/
structure Fx (P : Program) (w : World) (K : PySem.W.Frag) (mg : Str → Option Value) (base : Heap) (CX : CXT) (k : Nat) (x : Str) (f : Addr) (fd : FuncData) (ps : List Str) (sp : Sp) : Prop where
  ok : FnOk P w K mg base CX k f fd ps sp
  mg : mg x = some (.ref f)
  kp : PySem.W.keepIn K (.ref f) = true
  bd : Binds K fd ps []
/-- an own exception class with its __init__ -/
structure Ox (P : Program) (w : World) (K : PySem.W.Frag) (mg : Str → Option Value) (base : Heap) (k : Nat) (x : Str) (C f : Addr) (fd : FuncData) (ps : List Str) (sp : Sp) : Prop where
  c : OexC K C
  iC : PySem.W.findIn K (.ref C) "__init__" = some (some (.ref f))
  tI : PySem.W.typeIn K (.ref f) = some (.type "function")
  ok : FnOk P w K mg base CX0 k f fd ps sp
  bd : Binds K fd ps []
  mg : mg x = some (.ref C)
/-- BadEnd(v1, v2) is raised: its own dict is new -/
def BadAt (C : Addr) (H : Hp) (v1 v2 : V) (E : XK) : Prop := ∀ (H' : Hp) (d : Addr), Same H H' → H d = none → H' d = some (.xd [("row", v2), ("part", v1)]) → E (.ref C) (some d) H'
theorem BadAt.same {C : Addr} {H H1 : Hp} {v1 v2 : V} {E : XK} (s : Same H H1) (h : BadAt C H v1 v2 E) : BadAt C H1 v1 v2 E := fun H' d s' n e => h H' d (s.trans s') (s.free n) e
/-- BadEnd.__init__ -/
def spBadInit (C : Addr) : Sp := fun vs H Q _ => ∃ (a : Addr) (v1 v2 : V), vs = [.ref a, v1, v2] ∧ H a = some (exo a C none) ∧
  ∀ (H' : Hp) (d : Addr), H' a = some (exo a C (some d)) → H d = none → d ≠ a → H' d = some (exd d [("row", v2), ("part", v1)]) → (∀ b o, H b = some o → b ≠ a → H' b = some o) → Q .non H'
/-- all that stood stands, but at p -/
def But (p : Addr) (H H' : Hp) : Prop := ∀ b o, H b = some o → b ≠ p → H' b = some o
theorem But.refl {p : Addr} {H : Hp} : But p H H := fun _ _ h _ => h
theorem But.trans {p : Addr} {H H1 H2 : Hp} (a : But p H H1) (b : But p H1 H2) : But p H H2 := fun c o h n => b c o (a c o h n) n
theorem But.same {p : Addr} {H H1 : Hp} (a : Same H H1) : But p H H1 := fun c o h _ => a c o h
theorem But.upd {p : Addr} {H : Hp} {o : HO} : But p H (upd H p o) := fun c u h n => by rw [upd_ne n]; exact h
theorem Same.upd {p : Addr} {H : Hp} {o : HO} (n : H p = none) : Same H (upd H p o) := fun c u h => by
  rw [upd_ne (ne_of_none h n)]
  exact h
theorem sqT_same {K : PySem.W.Frag} {H H' : Hp} {a : Addr} {xs : List V} (e : Same H H') (h : SqT K H a xs) : SqT K H' a xs := by
  rcases h with (h | ⟨o, h⟩) | h
  · exact .inl (.inl (e _ _ h))
  · exact .inl (.inr ⟨o, e _ _ h⟩)
  · exact .inr h
/-- the bag at p: three numbers; n bounds how often it was asked -/
def Bag (H : Hp) (p : Addr) (n : Nat) : Prop := ∃ g b c : Int, H p = some (.lst [.int g, .int b, .int c]) ∧ 0 ≤ g ∧ 0 ≤ b ∧ b < 2 ^ 100 ∧ 0 ≤ c ∧ c ≤ n
theorem Bag.mono {H : Hp} {p : Addr} {n m : Nat} (h : Bag H p n) (l : n ≤ m) : Bag H p m := by
  obtain ⟨g, b, c, e, h0, h1, h2, h3, h4⟩ := h
  exact ⟨g, b, c, e, h0, h1, h2, h3, by omega⟩
theorem Bag.same {H H' : Hp} {p : Addr} {n : Nat} (h : Bag H p n) (s : Same H H') : Bag H' p n := by
  obtain ⟨g, b, c, e, r⟩ := h
  exact ⟨g, b, c, s _ _ e, r⟩
/-- take(bag, many): a draw below many -/
def spTake : Sp := fun vs H Q _ => ∃ (p : Addr) (n : Nat) (m : Int), vs = [.ref p, .int m] ∧ Bag H p n ∧ n ≤ 1000000 ∧ 0 < m ∧ m < 1073741824 ∧
  ∀ (H' : Hp) (d : Int), 0 ≤ d → d < m → Bag H' p (n + 1) → But p H H' → Q (.int d) H'
theorem hu65 {A : Around} {k : Nat} (hr : Room k A) : A.units + 65 < cLine := Nat.lt_of_le_of_lt (Nat.add_le_add_left (by omega : 65 ≤ 16 * k + 200) _) (by have := hr.un; omega)
theorem at3 {a b c : V} : atI [a, b, c] 0 = some a ∧ atI [a, b, c] 1 = some b ∧ atI [a, b, c] 2 = some c :=
  ⟨atI_nat (j := 0) rfl, atI_nat (j := 1) rfl, atI_nat (j := 2) rfl⟩
/-- what follows in a row: another row, or a word -/
inductive Pl where
  | num (n : Nat) | word (s : Str)
  deriving DecidableEq
def Pl.v : Pl → V
  | .num n => .int (n : Int)
  | .word s => .str s
def Pl.key : Pl → Key
  | .num n => .inl (n : Int)
  | .word s => .inr s
theorem Pl.v_key (p : Pl) : p.v = kV p.key := by cases p <;> rfl
theorem Pl.v_inj {p q : Pl} (h : p.v = q.v) : p = q := by
  cases p <;> cases q <;> simp_all [Pl.v] <;> omega
theorem Pl.key_inj {p q : Pl} (h : p.key = q.key) : p = q := by
  cases p <;> cases q <;> simp_all [Pl.key] <;> omega
/-- it fits into a machine of so many rows with these words -/
def Pl.Ok (many : Nat) (ws : List Str) : Pl → Prop
  | .num n => n < many
  | .word s => s ∈ ws
instance {many : Nat} {ws : List Str} (p : Pl) : Decidable (p.Ok many ws) := match p with
  | .num n => inferInstanceAs (Decidable (n < many))
  | .word s => inferInstanceAs (Decidable (s ∈ ws))
structure Row where
  put : Nat
  a : Pl
  b : Pl
  deriving DecidableEq
def Row.vs (r : Row) : List V := [.int (r.put : Int), r.a.v, r.b.v]
def Row.Ok (many : Nat) (ws : List Str) (r : Row) : Prop := (r.put = 0 ∨ r.put = 1) ∧ r.a.Ok many ws ∧ r.b.Ok many ws
instance {many : Nat} {ws : List Str} (r : Row) : Decidable (r.Ok many ws) := inferInstanceAs (Decidable ((r.put = 0 ∨ r.put = 1) ∧ r.a.Ok many ws ∧ r.b.Ok many ws))
/-- v is a row of H -/
def RowAt (H : Hp) (v : V) (r : Row) : Prop := ∃ a, v = .ref a ∧ H a = some (.tup r.vs)
/-- the values vs are the rows rs -/
def RowsV (H : Hp) (vs : List V) (rs : List Row) : Prop := Paired (RowAt H) vs rs
theorem RowAt.same {H H' : Hp} {v : V} {r : Row} (s : Same H H') (h : RowAt H v r) : RowAt H' v r := by
  obtain ⟨a, e, x⟩ := h
  exact ⟨a, e, s _ _ x⟩
theorem RowsV.imp {H H' : Hp} {vs : List V} {rs : List Row} (f : ∀ v r, RowAt H v r → RowAt H' v r) (h : RowsV H vs rs) : RowsV H' vs rs := Paired.mapP h f
theorem RowsV.same {H H' : Hp} {vs : List V} {rs : List Row} (s : Same H H') (h : RowsV H vs rs) : RowsV H' vs rs := h.imp fun _ _ => RowAt.same s
/-- a list (the bag, say) is no row -/
theorem RowsV.but {H H' : Hp} {p : Addr} {vs : List V} {rs : List Row} (s : But p H H') (hp : ∀ xs, H p ≠ some (.tup xs)) (h : RowsV H vs rs) : RowsV H' vs rs :=
  h.imp fun _ _ ⟨a, e, x⟩ => ⟨a, e, s _ _ x fun z => hp _ (by rw [← z]; exact x)⟩
theorem RowsV.get : ∀ {H : Hp} {vs : List V} {rs : List Row}, RowsV H vs rs → ∀ (i : Nat) (v : V), vs[i]? = some v → ∃ r, rs[i]? = some r ∧ RowAt H v r
  | _, _, _, .nil, i, v, e => by simp at e
  | _, _, _, .cons h t, 0, v, e => by
    simp at e
    subst e
    exact ⟨_, rfl, h⟩
  | _, _, _, .cons h t, i + 1, v, e => by
    obtain ⟨r, e1, e2⟩ := RowsV.get (vs := _) t i v (by simpa using e)
    exact ⟨r, by simpa using e1, e2⟩
theorem RowsV.get' : ∀ {H : Hp} {vs : List V} {rs : List Row}, RowsV H vs rs → ∀ (i : Nat) (r : Row), rs[i]? = some r → ∃ v, vs[i]? = some v ∧ RowAt H v r
  | _, _, _, .nil, i, v, e => by simp at e
  | _, _, _, .cons h t, 0, v, e => by
    simp at e
    subst e
    exact ⟨_, rfl, h⟩
  | _, _, _, .cons h t, i + 1, v, e => by
    obtain ⟨r, e1, e2⟩ := RowsV.get' (vs := _) t i v (by simpa using e)
    exact ⟨r, by simpa using e1, e2⟩
theorem RowsV.len {H : Hp} {vs : List V} {rs : List Row} (h : RowsV H vs rs) : vs.length = rs.length := Paired.length h
theorem RowsV.snoc {H : Hp} {v : V} {r : Row} (x : RowAt H v r) : ∀ {vs : List V} {rs : List Row}, RowsV H vs rs → RowsV H (vs ++ [v]) (rs ++ [r])
  | _, _, .nil => .cons x .nil
  | _, _, .cons h t => .cons h (RowsV.snoc x t)
theorem Bag.no {H : Hp} {p : Addr} {n : Nat} (h : Bag H p n) (xs : List V) : H p ≠ some (.tup xs) := by
  obtain ⟨g, b, c, e, _⟩ := h
  rw [e]
  intro z
  cases Option.some.inj z
end Sb

set_option Elab.async false
set_option linter.all false
set_option maxHeartbeats 2000000
/-! Sbm: where heard bits lead, in plain lists. -/
namespace Sb
open PySem L2
/-- p follows row i -/
def Fol (rows : List Row) (i : Nat) (p : Pl) : Prop := ∃ r, rows[i]? = some r ∧ (p = r.a ∨ p = r.b)
/-- some heard bits lead from row b to p -/
inductive Reach (rows : List Row) (b : Nat) : Pl → Prop where
  | base : Reach rows b (.num b)
  | step {i : Nat} {p : Pl} (h : Reach rows b (.num i)) (f : Fol rows i p) : Reach rows b p
def Pl.isNum : Pl → Bool
  | .num _ => true
  | .word _ => false
/-- what holds of the found ones and of those ahead; k (where it is some row) waits for its followers but the first j -/
structure RInv (rows : List Row) (b : Nat) (fs : List Pl) (as : List Nat) (hold : Option (Nat × Nat)) : Prop where
  nd : fs.Nodup
  sound : ∀ x, x ∈ fs → Reach rows b x
  start : Pl.num b ∈ fs
  sub : ∀ i, i ∈ as → Pl.num i ∈ fs
  small : ∀ i, Pl.num i ∈ fs → i < rows.length
  closed : ∀ i, Pl.num i ∈ fs → i ∉ as → (∀ j, hold ≠ some (i, j)) → ∀ p, Fol rows i p → p ∈ fs
  held : ∀ i j, hold = some (i, j) → Pl.num i ∈ fs ∧ ∀ r, rows[i]? = some r → (1 ≤ j → r.a ∈ fs) ∧ (2 ≤ j → r.b ∈ fs)
theorem RInv.begin {rows : List Row} {b : Nat} (h : b < rows.length) : RInv rows b [.num b] [b] none :=
  ⟨by simp, fun x hx => by simp at hx; subst hx; exact .base, by simp, fun i hi => by simp at hi; simp [hi], fun i hi => by simp at hi; omega,
   fun i hi ha => by simp at hi; simp [hi] at ha, fun i j z => by cases z⟩
theorem RInv.pop {rows : List Row} {b i : Nat} {fs : List Pl} {as : List Nat} (h : RInv rows b fs (as ++ [i]) none) : RInv rows b fs as (some (i, 0)) :=
  ⟨h.nd, h.sound, h.start, fun j hj => h.sub j (by simp [hj]), h.small, fun j hj ha hn p hp => h.closed j hj (by
      intro z
      rcases List.mem_append.mp z with z | z
      · exact ha z
      · simp at z
        exact hn 0 (by rw [z])) (by intro k z; cases z) p hp,
    fun k j e => by
      cases e
      exact ⟨h.sub i (by simp), fun r _ => ⟨fun z => absurd z (by omega), fun z => absurd z (by omega)⟩⟩⟩
theorem RInv.done {rows : List Row} {b i : Nat} {fs : List Pl} {as : List Nat} (h : RInv rows b fs as (some (i, 2))) : RInv rows b fs as none :=
  ⟨h.nd, h.sound, h.start, h.sub, h.small, fun j hj ha _ p hp => by
      by_cases e : j = i
      · subst e
        obtain ⟨r, hr, hp⟩ := hp
        obtain ⟨_, q⟩ := h.held j 2 rfl
        obtain ⟨q1, q2⟩ := q r hr
        rcases hp with rfl | rfl
        · exact q1 (by omega)
        · exact q2 (by omega)
      · exact h.closed j hj ha (fun k z => by cases z; exact e rfl) p hp, fun k j z => by cases z⟩
/-- the j-th follower is found already -/
theorem RInv.skip {rows : List Row} {b i j : Nat} {fs : List Pl} {as : List Nat} {r : Row} {p : Pl} (h : RInv rows b fs as (some (i, j))) (hr : rows[i]? = some r) (hp : (j = 0 ∧ p = r.a) ∨ (j = 1 ∧ p = r.b)) (hf : p ∈ fs) :
    RInv rows b fs as (some (i, j + 1)) :=
  ⟨h.nd, h.sound, h.start, h.sub, h.small, fun k hk ha hn => h.closed k hk ha (fun l z => by cases z; exact hn _ rfl), fun k l z => by
    cases z
    obtain ⟨q0, q⟩ := h.held i j rfl
    refine ⟨q0, fun r' hr' => ?_⟩
    rw [hr] at hr'
    cases hr'
    obtain ⟨q1, q2⟩ := q r hr
    rcases hp with ⟨rfl, rfl⟩ | ⟨rfl, rfl⟩
    · exact ⟨fun _ => hf, fun z => absurd z (by omega)⟩
    · exact ⟨fun _ => q1 (by omega), fun _ => hf⟩⟩
/-- a row that is new is ahead -/
def more (as : List Nat) : Pl → List Nat
  | .num k => as ++ [k]
  | .word _ => as
/-- it is new -/
theorem RInv.add {rows : List Row} {b i j : Nat} {fs : List Pl} {as : List Nat} {r : Row} {p : Pl} (h : RInv rows b fs as (some (i, j))) (hr : rows[i]? = some r) (hp : (j = 0 ∧ p = r.a) ∨ (j = 1 ∧ p = r.b)) (hf : p ∉ fs)
    (hs : ∀ k, p = .num k → k < rows.length) : RInv rows b (fs ++ [p]) (more as p) (some (i, j + 1)) := by
  have hi : Pl.num i ∈ fs := (h.held i j rfl).1
  have fol : Fol rows i p := ⟨r, hr, by rcases hp with ⟨_, e⟩ | ⟨_, e⟩ <;> simp [e]⟩
  have mem_as : ∀ k, k ∈ (more as p) → k ∈ as ∨ p = .num k := fun k hk => by
    cases p with
    | num m =>
      rcases List.mem_append.mp hk with z | z
      · exact .inl z
      · simp at z
        exact .inr (by rw [z])
    | word z => exact .inl hk
  have as_mem : ∀ k, k ∈ as → k ∈ (more as p) := fun k hk => by
    cases p with
    | num m => exact List.mem_append_left _ hk
    | word z => exact hk
  refine ⟨?_, ?_, by simp [h.start], ?_, ?_, ?_, ?_⟩
  · rw [List.nodup_append]
    refine ⟨h.nd, by simp, fun x hx y hy => ?_⟩
    simp at hy
    subst hy
    rintro rfl
    exact hf hx
  · intro x hx
    rcases List.mem_append.mp hx with z | z
    · exact h.sound x z
    · simp at z
      subst z
      exact .step (h.sound _ hi) fol
  · intro k hk
    rcases mem_as k hk with z | z
    · exact List.mem_append_left _ (h.sub k z)
    · rw [← z]
      simp
  · intro k hk
    rcases List.mem_append.mp hk with z | z
    · exact h.small k z
    · simp at z
      exact hs k z.symm
  · intro k hk ha hn q hq
    rcases List.mem_append.mp hk with z | z
    · exact List.mem_append_left _ (h.closed k z (fun y => ha (as_mem k y)) (fun l y => by cases y; exact hn _ rfl) q hq)
    · simp at z
      subst z
      exact absurd (List.mem_append_right _ (by simp)) ha
  · intro k l z
    cases z
    obtain ⟨_, q⟩ := h.held i j rfl
    refine ⟨List.mem_append_left _ hi, fun r' hr' => ?_⟩
    rw [hr] at hr'
    cases hr'
    obtain ⟨q1, q2⟩ := q r hr
    rcases hp with ⟨rfl, rfl⟩ | ⟨rfl, rfl⟩
    · exact ⟨fun _ => by simp, fun z => absurd z (by omega)⟩
    · exact ⟨fun _ => List.mem_append_left _ (q1 (by omega)), fun _ => by simp⟩
/-- nothing is ahead: just what is led to is found -/
theorem RInv.all {rows : List Row} {b : Nat} {fs : List Pl} (h : RInv rows b fs [] none) (x : Pl) : x ∈ fs ↔ Reach rows b x := by
  refine ⟨h.sound x, fun z => ?_⟩
  induction z with
  | base => exact h.start
  | step _ f ih => exact h.closed _ ih (by simp) (by intro k z; cases z) _ f
/-- the first row that is none -/
def firstBad (n : Nat) (ws : List Str) : List Row → Nat → Option Nat
  | [], _ => none
  | r :: t, i => if r.Ok n ws then firstBad n ws t (i + 1) else some i
theorem firstBad_none {n : Nat} {ws : List Str} : ∀ {l : List Row} {i : Nat}, firstBad n ws l i = none → ∀ r, r ∈ l → r.Ok n ws
  | [], _, _, r, h => by simp at h
  | x :: t, i, e, r, h => by
    unfold firstBad at e
    by_cases c : x.Ok n ws
    · rw [if_pos c] at e
      rcases List.mem_cons.mp h with z | z
      · rw [z]
        exact c
      · exact firstBad_none e r z
    · rw [if_neg c] at e
      cases e
theorem firstBad_all {n : Nat} {ws : List Str} : ∀ {l : List Row} {i : Nat}, (∀ r, r ∈ l → r.Ok n ws) → firstBad n ws l i = none
  | [], _, _ => rfl
  | x :: t, i, h => by
    unfold firstBad
    rw [if_pos (h x (by simp))]
    exact firstBad_all fun r hr => h r (by simp [hr])
theorem firstBad_at {n : Nat} {ws : List Str} : ∀ {l : List Row} {i k : Nat} {r : Row}, l[k]? = some r → ¬ r.Ok n ws → (∀ (j : Nat) (r' : Row), j < k → l[j]? = some r' → r'.Ok n ws) → firstBad n ws l i = some (i + k)
  | [], i, k, r, e, _, _ => by simp at e
  | x :: t, i, 0, r, e, h, _ => by
    simp at e
    subst e
    unfold firstBad
    rw [if_neg h]
    rfl
  | x :: t, i, k + 1, r, e, h, hp => by
    unfold firstBad
    rw [if_pos (hp 0 x (by omega) rfl), firstBad_at (l := t) (i := i + 1) (k := k) (r := r) (by simpa using e) h fun j r' hj hr => hp (j + 1) r' (by omega) (by simpa using hr)]
    congr 1
    omega
/-- what is wrong with a machine: None for its size, else the first index of no row -/
def machineFault (few most : Nat) (ws : List Str) (rows : List Row) : Option V :=
  if few ≤ rows.length ∧ rows.length ≤ most then (firstBad rows.length ws rows 0).map fun i => V.int (i : Int) else some .non
def hearerWords : List Str := ["taken", "lost"]
def senderWords : List Str := ["done", "again"]
open Classical in
/-- what is wrong with an end, the hearer's machine first -/
noncomputable def endFault (hs ss : List Row) : Option (V × V) :=
  match machineFault 2 100 hearerWords hs with
  | some v => some (.str "hearer", v)
  | none => match machineFault 1 100 senderWords ss with
    | some v => some (.str "sender", v)
    | none => if Reach hs 1 (.word "taken") then some (.str "body", .non) else none
theorem mf_none {few most : Nat} {ws : List Str} {rows : List Row} (h : machineFault few most ws rows = none) : few ≤ rows.length ∧ rows.length ≤ most ∧ ∀ r, r ∈ rows → r.Ok rows.length ws := by
  unfold machineFault at h
  by_cases c : few ≤ rows.length ∧ rows.length ≤ most
  · rw [if_pos c] at h
    refine ⟨c.1, c.2, firstBad_none (i := 0) ?_⟩
    cases e : firstBad rows.length ws rows 0 with
    | none => rfl
    | some i =>
      rw [e] at h
      cases h
  · rw [if_neg c] at h
    cases h
theorem mf_ok {few most : Nat} {ws : List Str} {rows : List Row} (h1 : few ≤ rows.length) (h2 : rows.length ≤ most) (h : ∀ r, r ∈ rows → r.Ok rows.length ws) : machineFault few most ws rows = none := by
  unfold machineFault
  rw [if_pos ⟨h1, h2⟩, firstBad_all h]
  rfl
theorem mf_size {few most : Nat} {ws : List Str} {rows : List Row} (h : ¬ (few ≤ rows.length ∧ rows.length ≤ most)) : machineFault few most ws rows = some .non := if_neg h
theorem mf_row {few most : Nat} {ws : List Str} {rows : List Row} {i : Nat} {r : Row} (h1 : few ≤ rows.length) (h2 : rows.length ≤ most) (e : rows[i]? = some r) (hb : ¬ r.Ok rows.length ws) (hp : ∀ (j : Nat) (r' : Row), j < i → rows[j]? = some r' → r'.Ok rows.length ws) :
    machineFault few most ws rows = some (.int (i : Int)) := by
  unfold machineFault
  rw [if_pos ⟨h1, h2⟩, firstBad_at (i := 0) e hb hp, Nat.zero_add]
  rfl
/-- how many rows are found -/
def nums (fs : List Pl) : Nat := (fs.filter Pl.isNum).length
theorem nodup_len {l : List Nat} : ∀ {n : Nat}, l.Nodup → (∀ x, x ∈ l → x < n) → l.length ≤ n := by
  intro n
  induction n generalizing l with
  | zero =>
    intro _ h
    cases l with
    | nil => simp
    | cons x r => exact absurd (h x (by simp)) (by omega)
  | succ n ih =>
    intro nd h
    have e : l.length ≤ (l.erase n).length + 1 := by
      rw [List.length_erase]
      split <;> omega
    have := ih (l := l.erase n) (nd.erase n) fun x hx => by
      have h1 := h x (List.mem_of_mem_erase hx)
      have h2 : x ≠ n := fun z => by
        subst z
        exact (List.Nodup.not_mem_erase nd) hx
      omega
    omega
theorem nums_le {fs : List Pl} {n : Nat} (nd : fs.Nodup) (h : ∀ i, Pl.num i ∈ fs → i < n) : nums fs ≤ n := by
  have e : nums fs = (fs.filterMap fun p => match p with | .num i => some i | .word _ => none).length := by
    unfold nums
    clear nd h
    induction fs with
    | nil => rfl
    | cons p r ih =>
      cases p with
      | num i => simp [Pl.isNum, List.filter_cons, ih]
      | word z => simp [Pl.isNum, List.filter_cons, ih]
  rw [e]
  refine nodup_len ?_ fun x hx => ?_
  · refine List.Pairwise.filterMap _ ?_ nd
    intro p q hpq x hx y hy
    cases p <;> cases q <;> simp_all
  · obtain ⟨p, hp, hx⟩ := List.mem_filterMap.mp hx
    cases p with
    | num i =>
      simp at hx
      subst hx
      exact h i hp
    | word z => simp at hx
theorem nums_snoc {fs : List Pl} {p : Pl} : nums (fs ++ [p]) = nums fs + (match p with | .num _ => 1 | .word _ => 0) := by
  unfold nums
  cases p <;> simp [Pl.isNum, List.filter_append, List.filter_cons]
end Sb

set_option Elab.async false
set_option linter.all false
set_option maxHeartbeats 2000000
/-! Sbw: ways without a row twice, from row 1. -/
namespace Sb
open PySem L2
/-- a way from row 1 on which no row comes twice -/
inductive Way (rows : List Row) : List Nat → Prop where
  | one : Way rows [1]
  | more {p : List Nat} {i j : Nat} (w : Way rows (p ++ [i])) (f : Fol rows i (.num j)) (n : j ∉ p ++ [i]) : Way rows (p ++ [i] ++ [j])
theorem Way.last {rows : List Row} {q : List Nat} (w : Way rows q) : ∃ p i, q = p ++ [i] := by
  cases w with
  | one => exact ⟨[], 1, rfl⟩
  | more w f n => exact ⟨_, _, rfl⟩
theorem snoc_inj {p q : List Nat} {i j : Nat} (h : p ++ [i] = q ++ [j]) : p = q ∧ i = j := by
  have := List.append_inj' h rfl
  exact ⟨this.1, by simpa using this.2⟩
theorem Way.reach {rows : List Row} {q : List Nat} (w : Way rows q) : ∀ p i, q = p ++ [i] → Reach rows 1 (.num i) := by
  induction w with
  | one =>
    intro p i h
    obtain ⟨rfl, rfl⟩ := snoc_inj (p := []) (i := 1) (q := p) (j := i) h
    exact .base
  | more w f n ih =>
    intro p i h
    obtain ⟨rfl, rfl⟩ := snoc_inj h
    exact .step (ih _ _ rfl) f
theorem Way.nodup {rows : List Row} {q : List Nat} (w : Way rows q) : q.Nodup := by
  induction w with
  | one => simp
  | more w f n ih =>
    rw [List.nodup_append]
    refine ⟨ih, by simp, fun x hx y hy => ?_⟩
    simp at hy
    subst hy
    rintro rfl
    exact n hx
theorem Way.pos {rows : List Row} {q : List Nat} (w : Way rows q) : 1 ≤ q.length := by
  obtain ⟨p, i, rfl⟩ := w.last
  simp
theorem Way.small {rows : List Row} {q : List Nat} {n : Nat} (hn : 1 < n) (hf : ∀ i j, Fol rows i (.num j) → j < n) (w : Way rows q) : ∀ x, x ∈ q → x < n := by
  induction w with
  | one =>
    intro x hx
    simp at hx
    omega
  | more w f n' ih =>
    intro x hx
    rcases List.mem_append.mp hx with z | z
    · exact ih x z
    · simp at z
      subst z
      exact hf _ _ f
/-- a way to each row on a way -/
theorem Way.cut {rows : List Row} {q : List Nat} (w : Way rows q) : ∀ x, x ∈ q → ∃ p, Way rows (p ++ [x]) := by
  induction w with
  | one =>
    intro x hx
    simp at hx
    subst hx
    exact ⟨[], .one⟩
  | more w f n ih =>
    intro x hx
    rcases List.mem_append.mp hx with z | z
    · exact ih x z
    · simp at z
      subst z
      exact ⟨_, .more w f n⟩
theorem Way.of_reach {rows : List Row} {x : Pl} (h : Reach rows 1 x) : ∀ i, x = .num i → ∃ p, Way rows (p ++ [i]) := by
  induction h with
  | base =>
    intro i e
    cases e
    exact ⟨[], .one⟩
  | @step k p h f ih =>
    intro i e
    subst e
    obtain ⟨p, w⟩ := ih k rfl
    by_cases c : i ∈ p ++ [k]
    · exact w.cut i c
    · exact ⟨_, .more w f c⟩
/-- a word behind some way -/
def Told (rows : List Row) (k : Nat) (z : Str) : Prop := ∃ p i, Way rows (p ++ [i]) ∧ (p ++ [i]).length ≤ k ∧ Fol rows i (.word z)
theorem told_iff {rows : List Row} {n : Nat} (hn : 1 < n) (hf : ∀ i j, Fol rows i (.num j) → j < n) (z : Str) : Told rows n z ↔ Reach rows 1 (.word z) := by
  refine ⟨fun ⟨p, i, w, _, f⟩ => .step (w.reach _ _ rfl) f, fun h => ?_⟩
  generalize e : Pl.word z = x at h
  cases h with
  | base => cases e
  | @step i _ h f =>
    subst e
    obtain ⟨p, w⟩ := Way.of_reach h i rfl
    exact ⟨p, i, w, nodup_len w.nodup (w.small hn hf), f⟩
/-- the ways of k + 1 rows from those of k: by the followers of the last -/
theorem way_step {rows : List Row} {q : List Nat} {k : Nat} (hk : 1 ≤ k) : Way rows q ∧ q.length = k + 1 ↔ ∃ p i j, Way rows (p ++ [i]) ∧ (p ++ [i]).length = k ∧ Fol rows i (.num j) ∧ j ∉ p ++ [i] ∧ q = p ++ [i] ++ [j] := by
  constructor
  · rintro ⟨w, hl⟩
    cases w with
    | one =>
      simp at hl
      omega
    | @more p i j w f n => exact ⟨p, i, j, w, by simp at hl ⊢; omega, f, n, rfl⟩
  · rintro ⟨p, i, j, w, hl, f, n, rfl⟩
    exact ⟨.more w f n, by simp at hl ⊢; omega⟩
/-- a way as Python's data -/
def wayD (q : List Nat) : PyData := .tuple (q.map fun (n : Nat) => PyData.int (n : Int))
theorem ints_lay : ∀ q : List Nat, PyData.canLayAll0 (q.map fun (n : Nat) => PyData.int (n : Int)) = true
  | [] => by simp [PyData.canLayAll0]
  | z :: zs => by simp [PyData.canLayAll0, PyData.canLay0, ints_lay zs]
theorem ints_depth : ∀ q : List Nat, PyData.depthAll (q.map fun (n : Nat) => PyData.int (n : Int)) = 0
  | [] => by simp [PyData.depthAll]
  | z :: zs => by simp [PyData.depthAll, PyData.depth, ints_depth zs]
theorem wayD_shaped (q : List Nat) : SeqAt.shaped (wayD q) = true := by
  show ((wayD q).canLay0 && decide ((wayD q).depth ≤ 64)) = true
  rw [Bool.and_eq_true]
  exact ⟨by simp [wayD, PyData.canLay0, ints_lay], decide_eq_true (by simp [wayD, PyData.depth, ints_depth])⟩
theorem ways_lay : ∀ qs : List (List Nat), PyData.canLayAll0 (qs.map wayD) = true
  | [] => by simp [PyData.canLayAll0]
  | z :: zs => by simp [PyData.canLayAll0, wayD, PyData.canLay0, ints_lay]; exact ways_lay zs
theorem ways_depth : ∀ qs : List (List Nat), PyData.depthAll (qs.map wayD) ≤ 1
  | [] => by simp [PyData.depthAll]
  | z :: zs => by
    have := ways_depth zs
    simp [PyData.depthAll, wayD, PyData.depth, ints_depth] at this ⊢
    omega
theorem ways_shaped (qs : List (List Nat)) : SeqAt.shaped (.list (qs.map wayD)) = true := by
  have h1 := ways_depth qs
  show (PyData.canLay0 (.list (qs.map wayD)) && decide (PyData.depth (.list (qs.map wayD)) ≤ 64)) = true
  rw [Bool.and_eq_true]
  exact ⟨by simp only [PyData.canLay0]; exact ways_lay qs, decide_eq_true (by simp only [PyData.depth]; omega)⟩
theorem wayD_eqv : ∀ p q : List Nat, PyData.eqv (wayD p) (wayD q) = decide (p = q)
  | [], [] => by simp [wayD, PyData.eqv, PyData.eqvAll]
  | [], y :: q => by simp [wayD, PyData.eqv, PyData.eqvAll]
  | x :: p, [] => by simp [wayD, PyData.eqv, PyData.eqvAll]
  | x :: p, y :: q => by
    have ih := wayD_eqv p q
    simp only [wayD, PyData.eqv] at ih
    simp only [wayD, PyData.eqv, List.map_cons, PyData.eqvAll, ih]
    by_cases h : x = y
    · subst h
      simp
    · have e : ((x : Int) == (y : Int)) = false := beq_eq_false_iff_ne.mpr (by omega)
      rw [e]
      simp [h]
end Sb

set_option Elab.async false
set_option linter.all false
set_option maxHeartbeats 2000000
/-! Sbh: the drawn machines of hearers: no heard bits lead from row 1 to "taken". -/
namespace Sb
open PySem L2
def unTaken : Pl → Pl
  | .num n => .num n
  | .word s => if s = "taken" then .word "lost" else .word s
theorem unTaken_word (s : Str) : unTaken (.word s) = if s = "taken" then .word "lost" else .word s := rfl
def unRow (r : Row) : Row := ⟨r.put, unTaken r.a, unTaken r.b⟩
/-- the rows at these places without "taken" -/
def unRows (rows : List Row) (is : List Nat) : List Row := is.foldl (fun rs i => match rs[i]? with | some r => rs.set i (unRow r) | none => rs) rows
theorem unTaken_twice (p : Pl) : unTaken (unTaken p) = unTaken p := by
  cases p with
  | num n => rfl
  | word s =>
    unfold unTaken
    by_cases h : s = "taken"
    · simp only [if_pos h]
      rw [if_neg (by decide +kernel)]
    · simp only [if_neg h]
theorem unRows_snoc (rows : List Row) (is : List Nat) (i : Nat) : unRows rows (is ++ [i]) = match (unRows rows is)[i]? with | some r => (unRows rows is).set i (unRow r) | none => unRows rows is := by
  unfold unRows
  rw [List.foldl_append]
  rfl
theorem unRows_len (rows : List Row) : ∀ is : List Nat, (unRows rows is).length = rows.length := by
  intro is
  induction hN : is.length generalizing is with
  | zero =>
    have : is = [] := List.length_eq_zero_iff.mp hN
    subst this
    rfl
  | succ k ih =>
    rcases List.eq_nil_or_concat is with z | ⟨p, i, z⟩
    · subst z
      simp at hN
    · have z' : is = p ++ [i] := by simpa using z
      subst z'
      rw [unRows_snoc]
      have := ih p (by simpa using hN)
      split
      · rw [List.length_set, this]
      · exact this
theorem unRows_get (rows : List Row) : ∀ (is : List Nat) (i : Nat) (r : Row), rows[i]? = some r → (unRows rows is)[i]? = some (if i ∈ is then unRow r else r) := by
  intro is
  induction hN : is.length generalizing is with
  | zero =>
    have : is = [] := List.length_eq_zero_iff.mp hN
    subst this
    intro i r h
    simpa [unRows] using h
  | succ k ih =>
    rcases List.eq_nil_or_concat is with z | ⟨p, j, z⟩
    · subst z
      simp at hN
    · have z' : is = p ++ [j] := by simpa using z
      subst z'
      intro i r h
      have hi := ih p (by simpa using hN) i r h
      rw [unRows_snoc]
      have hlen : i < rows.length := (List.getElem?_eq_some_iff.mp h).1
      by_cases hj : i = j
      · subst hj
        rw [hi]
        simp only []
        rw [List.getElem?_set_self (by rw [unRows_len]; exact hlen)]
        rw [if_pos (show i ∈ p ++ [i] by simp)]
        by_cases hp : i ∈ p
        · rw [if_pos hp]
          simp [unRow, unTaken_twice]
        · rw [if_neg hp]
      · have e : (i ∈ p ++ [j]) ↔ i ∈ p := by simp [hj]
        have e2 : (if i ∈ p ++ [j] then unRow r else r) = if i ∈ p then unRow r else r := by
          by_cases hp : i ∈ p
          · rw [if_pos hp, if_pos (e.mpr hp)]
          · rw [if_neg hp, if_neg fun z => hp (e.mp z)]
        rw [e2]
        split
        · rw [List.getElem?_set_ne (fun z => hj z.symm)]
          exact hi
        · exact hi
theorem unTaken_ok {n : Nat} {ws : List Str} (h : ("lost" : Str) ∈ ws) {p : Pl} (hp : p.Ok n ws) : (unTaken p).Ok n ws := by
  cases p with
  | num k => exact hp
  | word s =>
    rw [unTaken_word]
    by_cases c : s = "taken"
    · rw [if_pos c]
      exact h
    · rw [if_neg c]
      exact hp
theorem unRows_ok {rows : List Row} {is : List Nat} {n : Nat} {ws : List Str} (h : ("lost" : Str) ∈ ws) (hok : ∀ r, r ∈ rows → r.Ok n ws) : ∀ r, r ∈ unRows rows is → r.Ok n ws := by
  intro r hr
  obtain ⟨i, hi⟩ := List.getElem?_of_mem hr
  have hlt : i < rows.length := by
    have := (List.getElem?_eq_some_iff.mp hi).1
    rwa [unRows_len] at this
  have e := unRows_get rows is i rows[i] (List.getElem?_eq_getElem hlt)
  rw [hi] at e
  have h0 := hok rows[i] (List.getElem_mem hlt)
  cases Option.some.inj e
  split
  · exact ⟨h0.1, unTaken_ok h h0.2.1, unTaken_ok h h0.2.2⟩
  · exact h0
theorem unTaken_num {p : Pl} {n : Nat} (h : unTaken p = .num n) : p = .num n := by
  cases p with
  | num k => exact h
  | word s =>
    rw [unTaken_word] at h
    by_cases c : s = "taken"
    · rw [if_pos c] at h
      cases h
    · rw [if_neg c] at h
      cases h
theorem unTaken_taken {p : Pl} : unTaken p ≠ .word "taken" := by
  intro h
  cases p with
  | num k => cases h
  | word s =>
    rw [unTaken_word] at h
    by_cases c : s = "taken"
    · rw [if_pos c] at h
      exact absurd (Pl.word.inj h) (by decide +kernel)
    · rw [if_neg c] at h
      exact c (Pl.word.inj h)
/-- without "taken" on all that row 1 leads to, it leads to no "taken" -/
theorem unRows_body {rows : List Row} {is : List Nat} {b : Nat} (h : ∀ i, Reach rows b (.num i) → i ∈ is) : ¬ Reach (unRows rows is) b (.word "taken") := by
  have back : ∀ x, Reach (unRows rows is) b x → (∀ i, x = .num i → Reach rows b (.num i)) ∧ x ≠ .word "taken" := by
    intro x hx
    induction hx with
    | base => exact ⟨fun i e => by cases e; exact .base, fun e => by cases e⟩
    | @step i p hr f ih =>
      have hi := ih.1 i rfl
      obtain ⟨r, hr', hp⟩ := f
      have hlt : i < rows.length := by
        have := (List.getElem?_eq_some_iff.mp hr').1
        rwa [unRows_len] at this
      have e := unRows_get rows is i rows[i] (List.getElem?_eq_getElem hlt)
      rw [hr', if_pos (h i hi)] at e
      cases Option.some.inj e
      refine ⟨fun j ej => ?_, fun z => ?_⟩
      · subst ej
        refine .step hi ⟨rows[i], List.getElem?_eq_getElem hlt, ?_⟩
        rcases hp with hp | hp
        · exact .inl (unTaken_num hp.symm).symm
        · exact .inr (unTaken_num hp.symm).symm
      · subst z
        rcases hp with hp | hp
        · exact unTaken_taken hp.symm
        · exact unTaken_taken hp.symm
  intro h1
  exact (back _ h1).2 rfl
/-- a machine of a hearer as it is drawn -/
def HearerOk (rows : List Row) : Prop := 2 ≤ rows.length ∧ rows.length ≤ 100 ∧ (∀ r, r ∈ rows → r.Ok rows.length hearerWords) ∧ ¬ Reach rows 1 (.word "taken")
def SenderOk (rows : List Row) : Prop := 1 ≤ rows.length ∧ rows.length ≤ 100 ∧ ∀ r, r ∈ rows → r.Ok rows.length senderWords
theorem fault_none {hs ss : List Row} (h : HearerOk hs) (s : SenderOk ss) : endFault hs ss = none := by
  unfold endFault
  rw [mf_ok h.1 h.2.1 h.2.2.1, mf_ok s.1 s.2.1 s.2.2]
  exact if_neg h.2.2.2
end Sb

set_option Elab.async false
set_option linter.all false
set_option maxHeartbeats 2000000
/-! Sbn: lists of numbers as values; the rows that a row leads to, in the order in which they are met. -/
namespace Sb
open PySem L2
/-- numbers as values -/
def natsV (q : List Nat) : List V := q.map fun (n : Nat) => V.int (n : Int)
theorem natsV_len (q : List Nat) : (natsV q).length = q.length := by unfold natsV; rw [List.length_map]
theorem natsV_get {q : List Nat} {i n : Nat} (h : q[i]? = some n) : (natsV q)[i]? = some (V.int (n : Int)) := by
  unfold natsV
  rw [List.getElem?_map, h]
  rfl
theorem natsV_snoc (q : List Nat) (n : Nat) : natsV q ++ [V.int (n : Int)] = natsV (q ++ [n]) := by unfold natsV; simp
theorem inV_nat {j : Nat} : ∀ q : List Nat, inV (.int (j : Int)) (natsV q) = decide (j ∈ q)
  | [] => by simp [inV, natsV]
  | n :: q => by
    have ih := inV_nat (j := j) q
    unfold inV natsV at ih ⊢
    rw [List.map_cons, List.any_cons, ih]
    show (((n : Int) == (j : Int)) || decide (j ∈ q)) = decide (j ∈ n :: q)
    by_cases h : n = j
    · subst h
      simp
    · have h1 : ((n : Int) == (j : Int)) = false := beq_eq_false_iff_ne.mpr (by omega)
      have h2 : ¬ j = n := fun e => h e.symm
      rw [h1, Bool.false_or]
      simp [h2]
theorem flat_nats : ∀ q : List Nat, (natsV q).all flatV = true
  | [] => rfl
  | _ :: q => flat_nats q
theorem noTup {H : Hp} {a : Addr} {xs : List V} (h : H a = some (.lst xs)) (zs : List V) : H a ≠ some (.tup zs) := fun z => by
  rw [h] at z
  cases Option.some.inj z
/-- the rows met so far, the first t of them looked at -/
structure LInv (rows : List Row) (b : Nat) (fs : List Nat) (t : Nat) : Prop where
  nd : fs.Nodup
  sound : ∀ i, i ∈ fs → Reach rows b (.num i)
  start : b ∈ fs
  small : ∀ i, i ∈ fs → i < rows.length
  closed : ∀ c i, c < t → fs[c]? = some i → ∀ j, Fol rows i (.num j) → j ∈ fs
theorem LInv.begin {rows : List Row} {b : Nat} (h : b < rows.length) : LInv rows b [b] 0 :=
  ⟨by simp, fun i hi => by simp at hi; subst hi; exact .base, by simp, fun i hi => by simp at hi; omega, fun c i hc => by omega⟩
theorem LInv.add {rows : List Row} {b t i j : Nat} {fs : List Nat} (h : LInv rows b fs t) (hi : i ∈ fs) (f : Fol rows i (.num j)) (hj : j ∉ fs) (hs : j < rows.length) (ht : t ≤ fs.length) : LInv rows b (fs ++ [j]) t := by
  refine ⟨?_, fun x hx => ?_, by simp [h.start], fun x hx => ?_, fun c i' hc hi' k hk => ?_⟩
  · rw [List.nodup_append]
    refine ⟨h.nd, by simp, fun x hx y hy => ?_⟩
    simp at hy
    subst hy
    rintro rfl
    exact hj hx
  · rcases List.mem_append.mp hx with z | z
    · exact h.sound x z
    · simp at z
      subst z
      exact .step (h.sound i hi) f
  · rcases List.mem_append.mp hx with z | z
    · exact h.small x z
    · simp at z
      omega
  · rw [List.getElem?_append_left (by omega)] at hi'
    exact List.mem_append_left _ (h.closed c i' hc hi' k hk)
theorem LInv.next {rows : List Row} {b t i : Nat} {fs : List Nat} (h : LInv rows b fs t) (hi : fs[t]? = some i) (hc : ∀ j, Fol rows i (.num j) → j ∈ fs) : LInv rows b fs (t + 1) :=
  ⟨h.nd, h.sound, h.start, h.small, fun c i' hc' hi' j hj => by
    by_cases e : c = t
    · subst e
      rw [hi] at hi'
      cases hi'
      exact hc j hj
    · exact h.closed c i' (by omega) hi' j hj⟩
theorem LInv.all {rows : List Row} {b : Nat} {fs : List Nat} {t : Nat} (h : LInv rows b fs t) (ht : fs.length ≤ t) (i : Nat) : i ∈ fs ↔ Reach rows b (.num i) := by
  refine ⟨h.sound i, fun hr => ?_⟩
  generalize e : Pl.num i = x at hr
  induction hr generalizing i with
  | base =>
    cases e
    exact h.start
  | @step k p hk f ih =>
    subst e
    have hm := ih k rfl
    obtain ⟨c, hc⟩ := List.getElem?_of_mem hm
    exact h.closed c k (by have := (List.getElem?_eq_some_iff.mp hc).1; omega) hc i f
end Sb

set_option Elab.async false
set_option linter.all false
set_option maxRecDepth 100000
set_option maxHeartbeats 2000000
/-! Sbo: an own class's ==, len, repr as rules. -/
namespace Sb
open PySem PySem.Spec PyProof.Rows L2
section
variable {X : Cx} {CX : CXT} {k : Nat} {C f : Addr} {fd : FuncData} {ps : List Str} {sp : Sp} {E : XK}
/-- a def runs one level below the body -/
theorem run_in1 {pins : List (Addr × Obj)} {σ : L2.St} {H : Hp} {s : Shared} {Q : VK} {us : List Value} {vs : List V} (F : FnOk X.prog X.w X.K X.mg X.base CX k f fd ps sp) (hr : Room (k + 1) X.A) (hb : Binds X.K fd ps []) (hx : Passes CX X E)
    (I : Inv X pins σ H s) (r : Vals vs us) (h : sp vs H Q E) : wpAny (model X.prog X.w) X.A.in1 (call (.ref f) us) (EP X pins σ Q) X.xe s := by
  have hl : us.length = ps.length := by
    rw [← r.length]
    exact F.len _ _ _ _ h
  have bnd := hb s us I.kIn (by rw [List.append_nil]; exact hl)
  rw [List.append_nil] at bnd
  have run := F.run X.A.in1 X.stack s H ⟨us, []⟩ us vs Q E hr.in1 I.env0.in1 bnd r h
  refine wpAny_call (codeAny_mono run fun q s' hq => ?_)
  match q, hq with
  | .error er, hq => exact hx pins σ H s er s' I hq
  | .ok (.ret u), hq => exact I.after hq
  | .ok .next, hq => exact False.elim hq
  | .ok .brk, hq => exact False.elim hq
  | .ok .cont, hq => exact False.elim hq
/-- x == y, x of an own class with its own __eq__ -/
def rEqOwn (K : PySem.W.Frag) (C : Addr) (sp : Sp) (E : XK) : R2 := fun x y H Q => ∃ (a dx : Addr) (fs : List (Str × V)) (t : Value), x = .ref a ∧ H a = some (.ins C dx fs) ∧ TyX K H y t ∧ PySem.W.notFirst K C t = true ∧
  sp [x, y] H (fun v H' => ∃ b, v = .bl b ∧ Q (.bl b) H') E
theorem op_eqOwn (M : Meth X.K C "__eq__" f) (F : FnOk X.prog X.w X.K X.mg X.base CX k f fd ps sp) (hr : Room k X.A) (hb : Binds X.K fd ps []) (hx : Passes CX X E) : OpR X (compareOp .Eq) (rEqOwn X.K C sp E) := by
  intro pins s σ H x y v u Q I rx ry h
  obtain ⟨a, dx, fs, t, rfl, ha, ty, nf, hsp⟩ := h
  have ru := ry
  obtain ⟨P, Z, p, _⟩ := kit_of I ry ty
  cases (show v = Value.ref a from rx)
  obtain ⟨mA, O, _⟩ := ins_get I.hok ha
  obtain ⟨od, J, _⟩ := O.look
  obtain ⟨m, hF⟩ := I.fr
  show wpAny (model X.prog X.w) X.A (richCompare .Eq (.ref a) u) (EP X pins σ Q) X.xe s
  refine PySem.W.cmp_K (op := .Eq) (tb := t) hr.units0 hF I.ok.mod.kin J (Z.ty _ _ I.kIn p) nf M.at_ M.fn ?_
  refine wpAny_mono (run_fn (Q := fun v H' => ∃ b, v = .bl b ∧ Q (.bl b) H') (us := [.ref a, u]) (vs := [.ref a, y]) (ds := []) (dvs := []) F hr hb .nil hx I (.cons rfl (.cons ru .nil)) (by rw [List.append_nil]; exact hsp)) (fun w s' z => ?_) fun _ _ q => q
  obtain ⟨v', H', I', rv, b, eb, q⟩ := z
  subst eb
  cases (show w = Value.bool b from rv)
  exact ⟨.bl b, H', I', rfl, q⟩
/-- len(x) by an own __len__ -/
def rLenOwn (C : Addr) (sp : Sp) (E : XK) : List V → Hp → VK → Prop := fun xs H Q => ∃ (a dx : Addr) (fs : List (Str × V)), xs = [.ref a] ∧ H a = some (.ins C dx fs) ∧ sp [.ref a] H (fun v H' => ∃ n : Int, v = .int n ∧ 0 ≤ n ∧ n < 2 ^ 63 ∧ Q (.int n) H') E
theorem call_lenOwn (M : Meth X.K C "__len__" f) (F : FnOk X.prog X.w X.K X.mg X.base CX k f fd ps sp) (hr : Room (k + 1) X.A) (hb : Binds X.K fd ps []) (hx : Passes CX X E) : CallR X (.builtin "len") (rLenOwn C sp E) := by
  intro pins s σ H xs us Q I r h
  obtain ⟨a, dx, fs, rfl, ha, hsp⟩ := h
  obtain ⟨u, rfl, rx⟩ := vals1 r
  cases (show u = Value.ref a from rx)
  obtain ⟨mA, O, _⟩ := ins_get I.hok ha
  obtain ⟨od, J, _⟩ := O.look
  obtain ⟨m, hF⟩ := I.fr
  refine PySem.W.len_K hF I.ok.mod.kin J M.at_ M.fn (wpAny_mono (run_in1 (us := [.ref a]) (vs := [.ref a]) F hr hb hx I (.cons rfl .nil) hsp) (fun w s' z => ?_) fun _ _ q => q)
  obtain ⟨v', H', I', rv, n, en, h0, h1, q⟩ := z
  subst en
  obtain ⟨tk, e⟩ := (show ∃ t, w = Value.int n t from rv)
  subst e
  exact ⟨⟨h0, h1⟩, .int n, H', I'.tok _, ⟨_, rfl⟩, q⟩
/-- repr(x) by an own __repr__ -/
def rReprOwn (C : Addr) (sp : Sp) (E : XK) : List V → Hp → VK → Prop := fun xs H Q => ∃ (a dx : Addr) (fs : List (Str × V)), xs = [.ref a] ∧ H a = some (.ins C dx fs) ∧ sp [.ref a] H (fun v H' => ∃ z : Str, v = .str z ∧ Q (.str z) H') E
theorem call_reprOwn (M : Meth X.K C "__repr__" f) (F : FnOk X.prog X.w X.K X.mg X.base CX k f fd ps sp) (hr : Room (k + 1) X.A) (hb : Binds X.K fd ps []) (hx : Passes CX X E) : CallR X (.builtin "repr") (rReprOwn C sp E) := by
  intro pins s σ H xs us Q I r h
  obtain ⟨a, dx, fs, rfl, ha, hsp⟩ := h
  obtain ⟨u, rfl, rx⟩ := vals1 r
  cases (show u = Value.ref a from rx)
  obtain ⟨mA, O, _⟩ := ins_get I.hok ha
  obtain ⟨od, J, _⟩ := O.look
  obtain ⟨m, hF⟩ := I.fr
  refine PySem.W.repr_K hr.in1.units0 hF I.ok.mod.kin J M.at_ M.fn (wpAny_mono (run_in1 (us := [.ref a]) (vs := [.ref a]) F hr hb hx I (.cons rfl .nil) hsp) (fun w s' z => ?_) fun _ _ q => q)
  obtain ⟨v', H', I', rv, y, ey, q⟩ := z
  subst ey
  obtain ⟨tk, e⟩ := (show ∃ t, w = Value.str y t from rv)
  subst e
  exact ⟨.str y, H', I', ⟨_, rfl⟩, q⟩
end
/-- a built-in class is not asked first -/
theorem not_first {K : PySem.W.Frag} {C : Addr} {n : String} {l : List Value} (e : fastBuiltinMro n = some l) (h : l.contains (.ref C) = false) : PySem.W.notFirst K C (.type n) = true := by
  have e1 : PySem.W.subIn K (.type n) (.ref C) = some false := by
    show (fastBuiltinMro n).map (·.contains (.ref C)) = some false
    rw [e]
    simpa using h
  unfold PySem.W.notFirst
  rw [e1]
  simp
theorem first_self {K : PySem.W.Frag} {C : Addr} : PySem.W.notFirst K C (.ref C) = true := by simp [PySem.W.notFirst]
end Sb

set_option Elab.async false
set_option linter.all false
set_option maxRecDepth 100000
set_option maxHeartbeats 2000000
/-! Sbg: defs that run where no repr is under way: repr of data. -/
namespace Sb
open PySem PySem.Spec PyProof.Rows L2
/-- what a def keeps where no guard stands -/
structure FnG (P : Program) (w : World) (K : PySem.W.Frag) (mg : Str → Option Value) (base : Heap) (CX : CXT) (k : Nat) (f : Addr) (fd : FuncData) (ps : List Str) (sp : Sp) : Prop where
  size : ∀ xs H Q E, sp xs H Q E → xs.length = ps.length
  go : ∀ (A : Around) (st : List Env) (s : Shared) (H : Hp) (args : Args) (us : List Value) (xs : List V) (Q : VK) (E : XK), A.guards = some [] → Room k A → Env0 P w K mg base A st s H → BindsTo s fd args (ps.zip us) → Vals xs us → sp xs H Q E →
    codeAny (model P w) A (.call (.ref f) args) (CR CX st P w H s Q E) s
section
variable {CX : CXT} {P : Program} {w : World} {K : PySem.W.Frag} {mg : Str → Option Value} {base : Heap} {k : Nat} {f : Addr}
theorem guards_in {A : Around} {e : Env} (h : A.guards = some []) : (A.deeper e).guards = some [] := by
  first
    | exact h
    | (show (A.deeper e).guards = some []; simp [Around.deeper, h])
/-- a def's promise from its body, no guard standing -/
theorem fnG {nm ql : Str} {pr : Arguments} {bd : List Stmt} {sc : Scope} {dV kV doc pm cdv ct oc : Value} {an od : Option Addr} {osl : Array (Option Value)} {N ps : List Str} {sp : Sp}
    (at_ : K.lookup f = some ⟨oc, od, .func (PySem.W.fnOf nm ql pr bd sc dV kV doc pm an cdv ct), osl⟩) (cd_ : PySem.W.codeIn K cdv ql = true) (Z : FnScope N ps sc) (size : ∀ xs H Q E, sp xs H Q E → xs.length = ps.length)
    (hb : ∀ (A : Around) (st : List Env) (s : Shared) (H : Hp) (xs : List V) (Q : VK) (E : XK), A.guards = some [] → Room k (A.deeper (envOfC ql sc s.heap.objs.size f cdv)) → sp xs H Q E →
      ∃ t, PSs (cxOf CX P w K mg base N ql sc f cdv A st s H E) bd t ∧ t { nx := fun _ H' => Q .non H', rt := Q } (start N xs) H) :
    FnG P w K mg base CX (k + 1) f (PySem.W.fnOf nm ql pr bd sc dV kV doc pm an cdv ct) ps sp := by
  refine ⟨size, fun A st s H args us xs Q E hg hr e0 bnd r hs => ?_⟩
  have hlen := size _ _ _ _ hs
  have inK : K.In s.heap := e0.mod.kin.keeps fun b o e => (e0.bs b o e).1
  have nol : s.heap.NoLimit := e0.mod.nolimit.keeps fun b o e => (e0.bs b o e).1
  refine codeAny_call_function hr.depth (inK _ _ at_) rfl Z.co Z.gen rfl (PySem.W.codeRec_of inK cd_) (bnd _ _ _ _ ?_)
  refine wpAny_newFunctionEnv_cells Z.kind (fun ⟨n, v⟩ hy => ?_) fun env he s1 x => ?_
  · rcases Z.par n (List.of_mem_zip hy).1 with q | q
    · exact .inl q
    · exact .inr ⟨q, PySem.W.cellsFrom_some _ _ _ (.inl q)⟩
  subst he
  refine ⟨nol.keeps x.toInCall.keep, codeAny_func ?_⟩
  obtain ⟨t, ht, hq⟩ := hb A st s H xs Q E hg (hr.deeper _) hs
  have I : Inv (cxOf CX P w K mg base N ql sc f cdv A st s H E) [] (start N xs) H s1 := inv_start Z hr.hd e0 hlen r x
  refine wpAny_mono (ht.run [] s1 (start N xs) H _ I hq) (fun fl s' z => ?_) fun e s' z => z
  match fl, z with
  | .ret u, ⟨v, σ', H', J, rv, q⟩ => exact ⟨v, H', J.os, J.bare, J.base, J.hok, rv, q⟩
  | .next, ⟨σ', H', J, q⟩ => exact ⟨V.non, H', J.os, J.bare, J.base, J.hok, rfl, q⟩
  | .brk, ⟨_, _, _, q⟩ => exact False.elim q
  | .cont, ⟨_, _, _, q⟩ => exact False.elim q
/-- the same in the words of a def -/
theorem okG {x qual : Str} {st : Stmt} {fd : FuncData} {N ps : List Str} {sp : Sp} (F : Fun K x qual st f fd) (Z : FnScope N ps (defScope st)) (size : ∀ xs H Q E, sp xs H Q E → xs.length = ps.length)
    (hb : ∀ (cdv : Value) (A : Around) (out : List Env) (s : Shared) (H : Hp) (xs : List V) (Q : VK) (E : XK), A.guards = some [] → Room k (A.deeper (envOfC qual (defScope st) s.heap.objs.size f cdv)) → sp xs H Q E →
      ∃ t, PSs (cxOf CX0 P w K mg base N qual (defScope st) f cdv A out s H E).nox (defBody st) t ∧ t { nx := fun _ H' => Q .non H', rt := Q } (start N xs) H) : FnG P w K mg base CX0 (k + 1) f fd ps sp := by
  obtain ⟨oc, od, kV, doc, pm, an, cdv, ct, osl, rfl, at_, cd_⟩ := F.ex
  refine fnG at_ cd_ Z size fun A out s H xs Q E hg hr hs => ?_
  obtain ⟨t, h, q⟩ := hb cdv A out s H xs Q E hg hr hs
  exact ⟨t, h.nox, q⟩
end
section
variable {X : Cx}
def rReprD (K : PySem.W.Frag) : List V → Hp → VK → Prop := fun xs H Q => ∃ v d, xs = [v] ∧ Dp K H v d ∧ d.showable = true ∧ SeqAt.shaped d = true ∧ d.shown.length ≤ sizeLine ∧ Q (.str d.shown) H
theorem shaped_nd {d : PyData} (h : SeqAt.shaped d = true) : d.hasDict = false ∧ d.depth ≤ 64 := by
  have h' : (d.canLay0 && decide (d.depth ≤ 64)) = true := h
  rw [Bool.and_eq_true] at h'
  exact ⟨PyData.hasDict_of_canLay d h'.1, of_decide_eq_true h'.2⟩
theorem call_reprD (hg : X.A.guards = some []) (hu : X.A.units + 66 < cLine) : CallR X (.builtin "repr") (rReprD X.K) := by
  intro pins s σ H xs us Q I r h
  obtain ⟨v, d, rfl, hd, hs, hl, hz, q⟩ := h
  obtain ⟨u, rfl, rx⟩ := vals1 r
  obtain ⟨nd, hdp⟩ := shaped_nd hl
  obtain ⟨as, rd⟩ := Dp.reads I d v u hd rx
  cases hd with
  | lst a b =>
    cases (show u = Value.ref _ from rx)
    refine repr_of_reads' rd hs (PyData.noDict_hsm nd) hg (by omega) (fun b o e => e) (fun h' t tk hk => ?_) hz
    exact ⟨.str _, H, I.kept hk, ⟨_, rfl⟩, q⟩
  | tup a b =>
    cases (show u = Value.ref _ from rx)
    refine repr_of_reads' rd hs (PyData.noDict_hsm nd) hg (by omega) (fun b o e => e) (fun h' t tk hk => ?_) hz
    exact ⟨.str _, H, I.kept hk, ⟨_, rfl⟩, q⟩
  | non =>
    cases (show u = Value.none from rx)
    exact PySem.P.repr_of_none ⟨.str _, H, I.tok _, ⟨_, rfl⟩, q⟩
  | bl b =>
    cases (show u = Value.bool b from rx)
    exact PySem.P.repr_of_bool ⟨.str _, H, I.tok _, ⟨_, rfl⟩, q⟩
  | int i =>
    obtain ⟨t, rfl⟩ := (show ∃ t, u = Value.int i t from rx)
    exact PySem.P.repr_of_int (of_decide_eq_true hs) ⟨.str _, H, I.tok _, ⟨_, rfl⟩, q⟩
  | str x =>
    obtain ⟨t, rfl⟩ := (show ∃ t, u = Value.str x t from rx)
    exact PySem.P.repr_of_str ⟨.str _, H, I.tok _, ⟨_, rfl⟩, q⟩ hz
end
end Sb

set_option Elab.async false
set_option linter.all false
set_option maxRecDepth 100000
set_option maxHeartbeats 2000000
/-! Sbs: what an end shows; properties of ends; a loop over a list or a tuple. -/
namespace Sb
open PySem PySem.Spec PyProof.Rows L2
theorem pi_or {X : Cx} {tg l : Expr} {w1 w2 : TI} (h1 : PI X tg l w1) (h2 : PI X tg l w2) : PI X tg l (fun σ H R => w1 σ H R ∨ w2 σ H R) :=
  ⟨fun pins s σ H R I h => h.elim (fun z => h1.run pins s σ H R I z) (fun z => h2.run pins s σ H R I z)⟩
theorem passNo {X : Cx} : Passes (L2.CX X.prog X.w) X E0 := fun _ _ _ _ _ _ _ c => by
  obtain ⟨_, _, _, _, _, _, _, _, _, _, _, _, z⟩ := c
  exact z.elim
/-- a class with its __init__, made -/
structure Mx (P : Program) (w : World) (K : PySem.W.Frag) (mg : Str → Option Value) (base : Heap) (CX : CXT) (k : Nat) (x : Str) (D f : Addr) (fd : FuncData) (ps : List Str) (sp : Sp) : Prop where
  mkC : Mk K D f
  ok : FnOk P w K mg base CX k f fd ps sp
  mg : mg x = some (.ref D)
  bd : Binds K fd ps []
theorem dget_of {H : Hp} {p : Addr} {kvs : List (Key × V)} {k : Key} {v : V} (e : H p = some (.dK kvs)) (l : valV kvs k = some v) : DGet H p (kV k) (some v) := by
  rw [← l]
  exact DGet.k e
/-- f(k = v, ..) -/
theorem pe_callKo {X : Cx} {CX : CXT} {k : Nat} {f : Addr} {fd : FuncData} {ps ks : List Str} {sp : Sp} {E : XK} {x : Str} {p pos : Pos} {kws : List Keyword} {tk : TA} {g : List Value → List Value → List Value} {gV : List V → List V → List V}
    (F : FnOk X.prog X.w X.K X.mg X.base CX k f fd ps sp) (hr : Room k X.A) (gl : Gl X x) (at_ : X.mg x = some (.ref f)) (kp : PySem.W.keepIn X.K (.ref f) = true) (kb : KBinds X.K fd ps ks g gV) (hx : Passes CX X E) (hkw : PK X kws tk)
    (all1 : (backToKw pos (keywordEach kws X.env)).all (·.1.isSome) = true := by rfl) (names : (backToKw pos (keywordEach kws X.env)).filterMap (·.1) = ks := by rfl) (nd : (x == ("__debug__" : Str)) = false := by decide)
    (pl : ((backTo pos (starEach [] X.env)).any (·.1) || (backToKw pos (keywordEach kws X.env)).any (·.1.isNone)) = false := by rfl) : PE X (.Call (.Name x p) [] kws pos) (tCallK sp gV E tNil tk) := by
  refine ⟨fun pins s σ H Q I h => wpAny_Call_Name_kw (ld_glob I gl at_ ?_ nd)⟩
  refine PySem.W.callWith_KW0 (h₀ := X.base) I.ok.mod.kin kp all1 (thn (hkw.run pos pins s σ H _ I h) fun ws s2 ⟨zs, H2, I2, rz, q2⟩ => ⟨I2.kIn, ?_⟩) pl
  rw [names]
  exact run_fnk (us := []) (vs := []) F hr kb hx I2 .nil rz q2
/-- three keywords, turned round -/
def turn3 {α : Type} : List α → List α → List α
  | [], [a, b, c] => [c, b, a]
  | _, _ => []
/-- a property of a class that hands one attribute out -/
structure Px (P : Program) (w : World) (K : PySem.W.Frag) (mg : Str → Option Value) (base : Heap) (C p g : Addr) (fd : FuncData) (f at_ : Str) : Prop where
  pof : PropOf K C f p g
  ok : FnOk P w K mg base CX0 1 g fd ["self"] (getSp C at_)
  bd : Binds K fd ["self"] []
/-- the machine of a start and its row -/
def beginOf (hs ss : List Row) (st : Str) : List Row × Nat := if st = "sender" then (ss, 0) else if st = "wrong" then (hs, 1) else (hs, 0)
def isStart (st : Str) : Prop := st = "right" ∨ st = "wrong" ∨ st = "sender"
/-- one bit on -/
def stepPl (rs : List Row) (p : Pl) (b : Nat) : Pl := match p with
  | .num i => match rs[i]? with
    | some r => if b = 0 then r.a else r.b
    | none => .num i
  | .word s => .word s
def walkPl (rs : List Row) (p : Pl) (bs : List Nat) : Pl := bs.foldl (stepPl rs) p
def putOf (rs : List Row) (i : Nat) : Nat := (rs[i]?.map Row.put).getD 0
/-- what is shown at a place -/
def seenVs (rs : List Row) : Pl → List V
  | .num i => [.str "put", .int (putOf rs i : Int)]
  | .word s => [.str "word", .str s]
def seenD (rs : List Row) : Pl → PyData
  | .num i => .tuple [.str "put", .int (putOf rs i : Int)]
  | .word s => .tuple [.str "word", .str s]
theorem walk_word (rs : List Row) (s : Str) : ∀ bs : List Nat, walkPl rs (.word s) bs = .word s
  | [] => rfl
  | b :: r => walk_word rs s r
theorem walk_snoc (rs : List Row) (p : Pl) (bs : List Nat) (b : Nat) : walkPl rs p (bs ++ [b]) = stepPl rs (walkPl rs p bs) b := by
  unfold walkPl
  rw [List.foldl_append]
  rfl
theorem step_ok {rs : List Row} {ws : List Str} (h : ∀ r, r ∈ rs → r.Ok rs.length ws) {p : Pl} (b : Nat) (hp : p.Ok rs.length ws) : (stepPl rs p b).Ok rs.length ws := by
  cases p with
  | word s => exact hp
  | num i =>
    have hi : i < rs.length := hp
    have e : stepPl rs (.num i) b = if b = 0 then rs[i].a else rs[i].b := by
      show (match rs[i]? with | some r => if b = 0 then r.a else r.b | none => Pl.num i) = _
      rw [List.getElem?_eq_getElem hi]
    have hr := h rs[i] (List.getElem_mem hi)
    rw [e]
    by_cases c : b = 0
    · rw [if_pos c]
      exact hr.2.1
    · rw [if_neg c]
      exact hr.2.2
theorem walk_ok {rs : List Row} {ws : List Str} (h : ∀ r, r ∈ rs → r.Ok rs.length ws) : ∀ (bs : List Nat) {p : Pl}, p.Ok rs.length ws → (walkPl rs p bs).Ok rs.length ws
  | [], _, hp => hp
  | b :: r, _, hp => walk_ok h r (step_ok h b hp)
/-- a word of a machine -/
def isWords (ws : List Str) : Prop := ws = hearerWords ∨ ws = senderWords
/-- a value that can be told and compared -/
def fineD (d : PyData) : Prop := d.showable = true ∧ SeqAt.shaped d = true ∧ d.shown.length ≤ sizeLine
/-- what is shown can be told -/
theorem seen_fine {rs : List Row} {ws : List Str} (hw : isWords ws) (h : ∀ r, r ∈ rs → r.Ok rs.length ws) {p : Pl} (hp : p.Ok rs.length ws) : fineD (seenD rs p) := by
  cases p with
  | num i =>
    have hi : i < rs.length := hp
    have e : putOf rs i = 0 ∨ putOf rs i = 1 := by
      unfold putOf
      rw [List.getElem?_eq_getElem hi]
      exact (h rs[i] (List.getElem_mem hi)).1
    show fineD (.tuple [.str "put", .int (putOf rs i : Int)])
    rcases e with e | e <;> (rw [e]; exact ⟨by decide +kernel, by decide +kernel, by decide +kernel⟩)
  | word z =>
    have hz : z ∈ ws := hp
    have key : ∀ y : Str, y = "taken" ∨ y = "lost" ∨ y = "done" ∨ y = "again" → fineD (.tuple [.str "word", .str y]) := by
      rintro y (rfl | rfl | rfl | rfl) <;> exact ⟨by decide +kernel, by decide +kernel, by decide +kernel⟩
    refine key z ?_
    rcases hw with rfl | rfl <;> (simp only [hearerWords, senderWords, List.mem_cons, List.not_mem_nil, or_false] at hz; rcases hz with rfl | rfl <;> simp)
theorem seen_dp {K : PySem.W.Frag} {H : Hp} {t : Addr} {rs : List Row} {p : Pl} (h : H t = some (.tup (seenVs rs p))) : Dp K H (.ref t) (seenD rs p) := by
  cases p with
  | num i => exact .tup (SqT.of h) (.cons (.str _) (.cons (.int _) .nil))
  | word z => exact .tup (SqT.of h) (.cons (.str _) (.cons (.str _) .nil))
theorem walk_more {rs : List Row} {p : Pl} {bs : List Nat} {z : Str} (h : walkPl rs p bs = .word z) (l : List Nat) : walkPl rs p (bs ++ l) = .word z := by
  unfold walkPl at h ⊢
  rw [List.foldl_append, h]
  exact walk_word rs z _
theorem natsV_app (q r : List Nat) : natsV q ++ natsV r = natsV (q ++ r) := by unfold natsV; rw [List.map_append]
theorem natsV_ne {q : List Nat} (h : q ≠ []) : natsV q ≠ [] := by
  cases q with
  | nil => exact absurd rfl h
  | cons a b => simp [natsV]
theorem walk_stays {rs : List Row} {p : Pl} {bs : List Nat} {i : Nat} {z : Str} (h : walkPl rs p (bs.take i) = .word z) : walkPl rs p bs = .word z := by
  have e : walkPl rs p (bs.take i ++ bs.drop i) = .word z := by
    unfold walkPl at h ⊢
    rw [List.foldl_append, h]
    exact walk_word rs z _
  rwa [List.take_append_drop] at e
end Sb

set_option Elab.async false
set_option linter.all false
set_option maxRecDepth 100000
set_option maxHeartbeats 2000000
/-! Sbl: the end of a law that runs where no repr is under way. -/
namespace Sb
open PySem PySem.Spec PySem.Calls PyProof.Rows L2
section
variable {P : Program} {w : World} {K : PySem.W.Frag} {mg mb : Str → Option Value} {k : Nat} {fa a : Addr} {fd : FuncData} {x : Str} {sp : Sp} {sh : Shared} {us : List Value} {ns : List Int}
/-- what the law's call comes to -/
def Good (sh : Shared) (r : Result) (s' : Shared) : Prop := r = .ok (.ret (.bool true)) ∧ OldK sh.heap s'.heap ∧ s'.os = sh.os ∧ AllBare s'.gens
/-- from a heap in which nothing but the script may be tracked -/
theorem law_at (kin : K.In sh.heap) (gl : sh.heap.Ns mainGlobals mg) (bl : sh.heap.Ns builtinsNs mb) (bb : ∀ y : Str, y ≠ "__name__" → mb y = bootBuiltins y) (nol : sh.heap.NoLimit) (g0 : sh.gens = #[])
    (ea : sh.heap.get? a = some { cls := .type "list", data := .seq us.toArray }) (hr : Room k callerA)
    (F : ∀ b : Heap, K.In b → b.Ns mainGlobals mg → FnG P w K mg b CX0 k fa fd [x] sp) (bind1 : ∀ (s : Shared) (u : Value), BindsTo s fd ⟨[u], []⟩ [(x, u)])
    (T : Hp) (only : Only T) (law : sp [.ref a] T (fun v _ => v = .bl true) fun _ _ _ => False) (ok : HOk P w T sh.heap) (alone : ∀ c, T c ≠ none → c = a) (away : T a ≠ none → K.lookup a = none) :
    codeAny (model P w) callerA (.call (.ref fa) ⟨[.ref a], []⟩) (Good sh) sh := by
  have keep1 : ∀ {c : Addr} {o : Obj}, sh.heap.get? c = some o → T c = none → (hidT sh.heap T).get? c = some o := fun e n => hidT_get e n
  -- a namespace is not the script
  have free1 : ∀ {c : Addr} {o : Obj} {en : Array DictEntry} {m : Nat}, sh.heap.get? c = some o → o.data = .dict en m → T c = none := by
    intro c o en m e d
    rcases ht : T c with _ | u
    · rfl
    · obtain rfl : c = a := alone c (by rw [ht]; exact Option.some_ne_none u)
      rw [ea] at e
      cases e
      exact absurd (show Data.seq us.toArray _ = Data.dict en m from d) (by intro z; cases z)
  have nsT : ∀ {c : Addr} {m : Str → Option Value}, sh.heap.Ns c m → (hidT sh.heap T).Ns c m := by
    rintro c m ⟨o, en, n, e, d, rest⟩
    exact ⟨o, en, n, keep1 e (free1 e d), d, rest⟩
  have kinT : K.In (hidT sh.heap T) := by
    intro c o e
    refine keep1 (kin c o e) ?_
    rcases ht : T c with _ | u
    · rfl
    · have hn : T c ≠ none := by rw [ht]; exact Option.some_ne_none u
      obtain rfl : c = a := alone c hn
      rw [away hn] at e
      cases e
  have md : Mod K mg (hidT sh.heap T) := by
    obtain ⟨mc, q1, q2⟩ := nol
    exact ⟨kinT, nsT gl, ⟨mb, nsT bl, bb⟩, ⟨mc, nsT q1, q2⟩⟩
  have none1 : ∀ c : Addr, c ∉ ([] : List Addr) := fun c z => by cases z
  have env : Env0 P w K mg (hidT sh.heap T) callerA [] sh T := ⟨rfl, md, fun _ _ e => of_hidT e, Nat.le_of_eq (hidT_size _ _), trivial, fun c z => absurd z (none1 c), ok, .of_eq g0⟩
  have run := (F _ kinT (nsT gl)).go callerA [] sh T ⟨[.ref a], []⟩ [.ref a] [.ref a] _ _ rfl hr env (bind1 sh (.ref a)) (.cons rfl .nil) law
  refine codeAny_mono run fun r s' z => ?_
  match r, z with
  | .error e, z => exact (show False from z).elim
  | .ok .next, z => exact (show False from z).elim
  | .ok .brk, z => exact (show False from z).elim
  | .ok .cont, z => exact (show False from z).elim
  | .ok (.ret u), ⟨v, T', os, bare, un, ok', rv, q⟩ =>
    have q' : v = .bl true := q
    subst q'
    obtain rfl : u = Value.bool true := rv
    refine ⟨rfl, OldK.of_keep fun c o e => ?_, os, bare⟩
    rcases ht : T c with _ | h
    · exact un.keep c o e ht (none1 c) (none1 c)
    · rcases only c with z | ⟨ob, ys, z⟩
      · rw [ht] at z
        cases z
      · obtain ⟨z1, _⟩ := ok c _ z
        obtain ⟨z2, _⟩ := ok' c _ (un.frzs c ob _ z)
        rw [e] at z1
        cases z1
        exact z2
/-- the law's promise, at the heap behind the top -/
theorem lawG (kin : K.In sh.heap) (gl : sh.heap.Ns mainGlobals mg) (bl : sh.heap.Ns builtinsNs mb) (bb : ∀ y : Str, y ≠ "__name__" → mb y = bootBuiltins y) (nol : sh.heap.NoLimit) (g0 : sh.gens = #[])
    (ea : sh.heap.get? a = some { cls := .type "list", data := .seq us.toArray }) (inn : IntsAre us ns) (short : ns.length ≤ sizeLine) (hr : Room k callerA)
    (F : ∀ b : Heap, K.In b → b.Ns mainGlobals mg → FnG P w K mg b CX0 k fa fd [x] sp) (bind1 : ∀ (s : Shared) (u : Value), BindsTo s fd ⟨[u], []⟩ [(x, u)])
    (law : ∀ T : Hp, Only T → SqL K T a (ns.map V.int) → sp [.ref a] T (fun v _ => v = .bl true) fun _ _ _ => False) :
    codeAny (model P w) callerA (.call (.ref fa) ⟨[.ref a], []⟩) (Good sh) sh := by
  have rv := vals_ints inn
  have len := inn.length
  rcases hk : K.lookup a with _ | o
  · have on : Only (fun c => if c = a then some (.frz { cls := .type "list", data := .seq us.toArray } (.lst (ns.map V.int))) else none) := fun c => by
      by_cases e : c = a
      · exact .inr ⟨_, _, if_pos e⟩
      · exact .inl (if_neg e)
    refine law_at kin gl bl bb nol g0 ea hr F bind1 _ on (law _ on (.inl (.inr ⟨_, if_pos rfl⟩))) (fun c u z => ?_) (fun c z => ?_) fun _ => hk
    · by_cases e : c = a
      · have z' := (if_pos e).symm.trans z
        cases z'
        subst e
        exact ⟨ea, by rw [List.length_map]; exact short, us, _, rv, ea⟩
      · have z' := (if_neg e).symm.trans z
        cases z'
    · by_cases e : c = a
      · exact e
      · exact absurd (if_neg e) z
  · have e := kin a o hk
    rw [ea] at e
    cases e
    have on : Only (fun _ => none) := fun _ => .inl rfl
    exact law_at kin gl bl bb nol g0 ea hr F bind1 _ on (law _ on (.inr ⟨_, us.toArray, _, hk, rfl, rfl, rfl, by rw [List.size_toArray, len]; exact short, by simpa using rv⟩)) (fun c u z => by
      have z' : (none : Option HO) = some u := z
      cases z') (fun c z => absurd rfl z) fun z => absurd rfl z
end
/-- the goal that k_head leaves (case hc) -/
theorem walkG {l : PySem.W.OpenLaw} {n k : Nat} {q : Program} {loose : List Str} {XP : (Str → Option Value) → Heap → Prop} {YP : World → Heap → Prop} {d : DefRec} {K : Params → PySem.W.Frag} {sp : World → Sp} {x : Str}
    (most : l.most = some n) (small : n ≤ sizeLine) (plain : d.params.defaults = []) (hr : Room k callerA) (kin : ∀ (w : World) (h : Heap), YP w h → (K w.params).In h)
    (F : ∀ (w : World) (mg : Str → Option Value) (fa : Addr) (h : Heap), (K w.params).In h → h.Ns mainGlobals mg → mg d.name = some (.ref fa) →
      ∃ fd : FuncData, (∀ (s : Shared) (u : Value), BindsTo s fd ⟨[u], []⟩ [(x, u)]) ∧ ∀ b : Heap, (K w.params).In b → b.Ns mainGlobals mg → FnG l.prog w (K w.params) mg b CX0 k fa fd [x] (sp w))
    (law : ∀ (w : World) (T : Hp) (a : Addr) (ns : List Int), ns.length ≤ n → Only T → SqL (K w.params) T a (ns.map V.int) → sp w [.ref a] T (fun v _ => v = .bl true) fun _ _ _ => False) :
    PySem.W.WalkO q loose XP YP l.row.toRowW d [] (fun f vs => PySem.call f vs) :=
  Att.attach_call most plain fun w s0 s1 mg mb fa o pm cd doc a us ns G Y _ _ _ name ea inn len g0 => by
    have kx := kin w _ Y
    obtain ⟨fd, b1, hF⟩ := F w mg fa _ kx G.T.g name
    exact lawG kx G.T.g G.T.b G.T.builtins G.T.nolimit g0 ea inn (Nat.le_trans len small) hr hF b1 fun T on sq => law w T a ns len on sq
end Sb

set_option Elab.async false
set_option linter.all false
set_option maxRecDepth 100000
set_option maxHeartbeats 2000000
namespace K09
open PySem L2 Sb
def top (i : Nat) : Stmt := PySem.Challenge.pw_strongbit_k09_what_ends_show.main.body.getD i (.Pass ⟨0, 0, 0, 0⟩)
abbrev sBadEnd_init : Stmt := inClass (top 2) 0
theorem scBadEnd_init : FnScope ["self", "part", "row"] ["self", "part", "row"] (defScope sBadEnd_init) := ⟨rfl, rfl, rfl, by decide +kernel, rfl, by decide +kernel, by decide +kernel⟩
abbrev sis_number : Stmt := top 6
theorem scis_number : FnScope ["value"] ["value"] (defScope sis_number) := ⟨rfl, rfl, rfl, by decide +kernel, rfl, by decide +kernel, by decide +kernel⟩
abbrev sis_follower : Stmt := top 7
theorem scis_follower : FnScope ["value", "size", "words"] ["value", "size", "words"] (defScope sis_follower) := ⟨rfl, rfl, rfl, by decide +kernel, rfl, by decide +kernel, by decide +kernel⟩
abbrev sis_row : Stmt := top 8
theorem scis_row : FnScope ["value", "size", "words", "put", "on_strong", "on_weak"] ["value", "size", "words"] (defScope sis_row) := ⟨rfl, rfl, rfl, by decide +kernel, rfl, by decide +kernel, by decide +kernel⟩
abbrev sreached : Stmt := top 9
theorem screached : FnScope ["rows", "begin", "found", "ahead", "place", "follower"] ["rows", "begin"] (defScope sreached) := ⟨rfl, rfl, rfl, by decide +kernel, rfl, by decide +kernel, by decide +kernel⟩
abbrev scheck_machine : Stmt := top 13
theorem sccheck_machine : FnScope ["part", "machine", "fewest", "most", "words", "index", "row"] ["part", "machine", "fewest", "most", "words"] (defScope scheck_machine) := ⟨rfl, rfl, rfl, by decide +kernel, rfl, by decide +kernel, by decide +kernel⟩
abbrev snumbered_rows : Stmt := top 14
theorem scnumbered_rows : FnScope ["part", "machine", "index", "row"] ["part", "machine"] (defScope snumbered_rows) := ⟨rfl, rfl, rfl, by decide +kernel, rfl, by decide +kernel, by decide +kernel⟩
abbrev sEnd_init : Stmt := inClass (top 15) 1
theorem scEnd_init : FnScope ["self", "hearer", "sender"] ["self", "hearer", "sender"] (defScope sEnd_init) := ⟨rfl, rfl, rfl, by decide +kernel, rfl, by decide +kernel, by decide +kernel⟩
abbrev sEnd_hearer : Stmt := inClass (top 15) 3
theorem scEnd_hearer : FnScope ["self"] ["self"] (defScope sEnd_hearer) := ⟨rfl, rfl, rfl, by decide +kernel, rfl, by decide +kernel, by decide +kernel⟩
abbrev sEnd_sender : Stmt := inClass (top 15) 4
theorem scEnd_sender : FnScope ["self"] ["self"] (defScope sEnd_sender) := ⟨rfl, rfl, rfl, by decide +kernel, rfl, by decide +kernel, by decide +kernel⟩
abbrev sbeginning : Stmt := top 17
theorem scbeginning : FnScope ["end", "start"] ["end", "start"] (defScope sbeginning) := ⟨rfl, rfl, rfl, by decide +kernel, rfl, by decide +kernel, by decide +kernel⟩
abbrev sseen_at : Stmt := top 18
theorem scseen_at : FnScope ["rows", "place"] ["rows", "place"] (defScope sseen_at) := ⟨rfl, rfl, rfl, by decide +kernel, rfl, by decide +kernel, by decide +kernel⟩
abbrev sshown : Stmt := top 19
theorem scshown : FnScope ["end", "start", "bits", "rows", "place", "bit"] ["end", "start", "bits"] (defScope sshown) := ⟨rfl, rfl, rfl, by decide +kernel, rfl, by decide +kernel, by decide +kernel⟩
abbrev sL_bag : Stmt := top 21
theorem scL_bag : FnScope ["_law_script", "_law_at", "_law_cell", "_law_great"] ["_law_script", "_law_at"] (defScope sL_bag) := ⟨rfl, rfl, rfl, by decide +kernel, rfl, by decide +kernel, by decide +kernel⟩
abbrev sL_take : Stmt := top 22
theorem scL_take : FnScope ["_law_bag_here", "_law_many", "_law_digit", "_law_mixed"] ["_law_bag_here", "_law_many"] (defScope sL_take) := ⟨rfl, rfl, rfl, by decide +kernel, rfl, by decide +kernel, by decide +kernel⟩
abbrev sL_place : Stmt := top 23
theorem scL_place : FnScope ["_law_bag_here", "_law_many", "_law_words", "_law_way"] ["_law_bag_here", "_law_many", "_law_words"] (defScope sL_place) := ⟨rfl, rfl, rfl, by decide +kernel, rfl, by decide +kernel, by decide +kernel⟩
abbrev sL_rows : Stmt := top 24
theorem scL_rows : FnScope ["_law_bag_here", "_law_many", "_law_words", "_law_k"] ["_law_bag_here", "_law_many", "_law_words"] (defScope sL_rows) := ⟨rfl, rfl, rfl, by decide +kernel, rfl, by decide +kernel, by decide +kernel⟩
abbrev sL_led : Stmt := top 25
theorem scL_led : FnScope ["_law_rows_here", "_law_first", "_law_found", "_law_at", "_law_place_here"] ["_law_rows_here", "_law_first"] (defScope sL_led) := ⟨rfl, rfl, rfl, by decide +kernel, rfl, by decide +kernel, by decide +kernel⟩
abbrev sL_hearer : Stmt := top 26
theorem scL_hearer : FnScope ["_law_bag_here", "_law_many", "_law_rows_here", "_law_at", "_law_put", "_law_strong", "_law_weak"] ["_law_bag_here", "_law_many"] (defScope sL_hearer) := ⟨rfl, rfl, rfl, by decide +kernel, rfl, by decide +kernel, by decide +kernel⟩
abbrev sL_sender : Stmt := top 27
theorem scL_sender : FnScope ["_law_bag_here", "_law_many"] ["_law_bag_here", "_law_many"] (defScope sL_sender) := ⟨rfl, rfl, rfl, by decide +kernel, rfl, by decide +kernel, by decide +kernel⟩
abbrev sL_walked : Stmt := top 28
theorem scL_walked : FnScope ["_law_hearer_here", "_law_sender_here", "_law_name", "_law_some", "_law_rows_here", "_law_place_here", "_law_bit"] ["_law_hearer_here", "_law_sender_here", "_law_name", "_law_some"] (defScope sL_walked) := ⟨rfl, rfl, rfl, by decide +kernel, rfl, by decide +kernel, by decide +kernel⟩
abbrev sL_told : Stmt := top 29
theorem scL_told : FnScope ["_law_bag_here", "_law_whole", "_law_name", "_law_some", "_law_way"] ["_law_bag_here", "_law_whole", "_law_name", "_law_some"] (defScope sL_told) := ⟨rfl, rfl, rfl, by decide +kernel, rfl, by decide +kernel, by decide +kernel⟩
abbrev slaw : Stmt := top 30
theorem sclaw : FnScope ["_law_script", "_law_k", "_law_bag_here", "_law_turn", "_law_hearer_here", "_law_sender_here", "_law_whole", "_law_name", "_law_some", "_law_usual", "_law_step", "_law_due", "_law_told_here", "_law_first"] ["_law_script"] (defScope slaw) := ⟨rfl, rfl, rfl, by decide +kernel, rfl, by decide +kernel, by decide +kernel⟩
/-- the names that the top leaves to the built-in ones -/
structure Txt (K : PySem.W.Frag) (mg : Str → Option Value) : Prop where
  b_int : mg "int" = none
  b_len : mg "len" = none
  b_abs : mg "abs" = none
  b_isinstance : mg "isinstance" = none
  b_bool : mg "bool" = none
  b_str : mg "str" = none
  b_tuple : mg "tuple" = none
  b_list : mg "list" = none
  b_enumerate : mg "enumerate" = none
  b_range : mg "range" = none
  b_max : mg "max" = none
  b_min : mg "min" = none
  b_repr : mg "repr" = none
end K09

set_option Elab.async false
set_option linter.all false
set_option maxRecDepth 100000
set_option maxHeartbeats 4000000
namespace K09
open PySem L2 Sb
variable {P : Program} {w : World} {K : PySem.W.Frag} {mg : Str → Option Value} {base : Heap}
theorem ok_take {f : Addr} {fd : FuncData} (F : Fun K "_law_take" "_law_take" sL_take f fd) (T : Txt K mg) : FnOk P w K mg base CX0 1 f fd ["_law_bag_here", "_law_many"] spTake := by
  refine F.ok scL_take (fun vs H Q E h => ?_) (fun cdv A outer s H vs Q E hr h => ?_)
  · obtain ⟨p, n, m, rfl, _⟩ := h
    rfl
  · obtain ⟨p, n, m, rfl, ⟨g, b, c, e, g0, b0, b1, c0, c1⟩, hn, m0, m1, k⟩ := h
    refine ⟨_, (pss_cons (ps_if (pt_cmpR op_gt (pe_ix ix_list (pv 0) pe_int (fun _ _ => rfl)) pe_int (nomark _)) (pss_cons (ps_set (i := 2) scL_take.nd rfl (Or.inl rfl) (pe_op op_mod (pe_callTy call_int1 (by rfl) T.b_int (by decide +kernel) (pa_cons (pe_ix ix_list (pv 0) pe_int (fun _ _ => rfl)) pa_nil)) (pv 1)))
  (pss_cons (ps_asg (pe_op op_fdiv (pe_ix ix_list (pv 0) pe_int (fun _ _ => rfl)) (pv 1)) (pg_sub (pv 0) pe_int set_list))
  (pss_one (ps_ret (pv 2))))) pss_nil)
  (pss_cons (ps_asg (pe_op op_add (pe_ix ix_list (pv 0) pe_int (fun _ _ => rfl)) pe_int) (pg_sub (pv 0) pe_int set_list))
  (pss_cons (ps_set (i := 3) scL_take.nd rfl (Or.inl rfl) (pe_op op_mod (pe_callTy call_int1 (by rfl) T.b_int (by decide +kernel) (pa_cons (pe_op Sb.op_powB (pe_op op_add (pe_ix ix_list (pv 0) pe_int (fun _ _ => rfl)) (pe_op op_mul pe_int (pe_ix ix_list (pv 0) pe_int (fun _ _ => rfl)))) pe_int) pa_nil)) pe_int))
  (pss_cons (ps_set (i := 3) scL_take.nd rfl (Or.inl rfl) (pe_op op_mod (pe_callTy call_int1 (by rfl) T.b_int (by decide +kernel) (pa_cons (pe_op Sb.op_powB (pe_op op_add (pv 3) (pe_op op_mul pe_int (pe_ix ix_list (pv 0) pe_int (fun _ _ => rfl)))) pe_int) pa_nil)) pe_int))
  (pss_one (ps_ret (pe_op op_mod (pe_op op_fdiv (pv 3) pe_int) (pv 1)))))))), ?_⟩
    refine ⟨_, rfl, p, _, 0, _, rfl, rfl, SqL.of e, at3.1, _, _, rfl, rfl, _, rfl, ?_⟩
    refine ite2 (fun hg => ?_) (fun hg => ?_)
    · refine ⟨_, rfl, p, _, 0, _, rfl, rfl, SqL.of e, at3.1, .inl ⟨_, rfl, ?_⟩⟩
      have gp : 0 < g := of_decide_eq_true hg
      refine ⟨_, rfl, _, _, rfl, rfl, m0, ?_⟩
      refine ⟨_, rfl, p, _, 0, _, rfl, rfl, SqL.of e, at3.1, _, rfl, _, _, rfl, rfl, ⟨m0, m1⟩, _, rfl, p, _, 0, 0, rfl, rfl, e, rfl, ?_⟩
      refine ⟨_, rfl, k _ _ (Int.emod_nonneg _ (by omega)) (Int.emod_lt_of_pos _ m0) ⟨g / m, b, c, upd_same, Int.ediv_nonneg g0 (by omega), b0, b1, c0, by omega⟩ But.upd⟩
    · refine ⟨_, rfl, p, _, 2, _, rfl, rfl, SqL.of e, at3.2.2, _, _, rfl, rfl, _, rfl, p, _, 2, 2, rfl, rfl, e, rfl, ?_⟩
      generalize eh : upd H p _ = H1
      have e1 : H1 p = some (.lst [.int g, .int b, .int (c + 1)]) := by rw [← eh]; exact upd_same
      have s1 : But p H H1 := by rw [← eh]; exact But.upd
      have z1 : (b + 1000003 * (c + 1)).natAbs < 2 ^ 101 := by
        have : (2 : Int) ^ 100 = 1267650600228229401496703205376 := by decide
        have : (2 : Nat) ^ 101 = 2535301200456458802993406410752 := by decide
        omega
      refine ⟨_, rfl, p, _, 1, _, rfl, rfl, SqL.of e1, at3.2.1, _, rfl, p, _, 2, _, rfl, rfl, SqL.of e1, at3.2.2, _, _, rfl, rfl, .inl ⟨by decide, by decide⟩, _, _, rfl, rfl, _, _, rfl, rfl, pow_fits z1 (by decide) (by decide), .inl ⟨_, rfl, ?_⟩⟩
      refine ⟨_, _, rfl, rfl, (by show (0 : Int) < 2305843009213693921; decide), ?_⟩
      have z2 : ((b + 1000003 * (c + 1)) ^ Int.toNat 3 % 2305843009213693921 + 179424673 * (c + 1)).natAbs < 2 ^ 63 := by
        generalize eu : (b + 1000003 * (c + 1)) ^ Int.toNat 3 % 2305843009213693921 = u
        have u0 : 0 ≤ u := by rw [← eu]; exact Int.emod_nonneg _ (by decide)
        have u1 : u < 2305843009213693921 := by rw [← eu]; exact Int.emod_lt_of_pos _ (by decide)
        have : (2 : Nat) ^ 63 = 9223372036854775808 := by decide
        omega
      refine ⟨_, rfl, _, rfl, p, _, 2, _, rfl, rfl, SqL.of e1, at3.2.2, _, _, rfl, rfl, .inl ⟨by decide, by decide⟩, _, _, rfl, rfl, _, _, rfl, rfl, pow_fits z2 (by decide) (by decide), .inl ⟨_, rfl, ?_⟩⟩
      refine ⟨_, _, rfl, rfl, (by show (0 : Int) < 2305843009213693951; decide), ?_⟩
      refine ⟨_, rfl, _, _, rfl, rfl, ⟨by decide, by decide⟩, _, rfl, _, _, rfl, rfl, m0, ?_⟩
      exact k _ _ (Int.emod_nonneg _ (by omega)) (Int.emod_lt_of_pos _ m0) ⟨g, b, c + 1, e1, g0, b0, b1, by omega, by omega⟩ s1

end K09

set_option Elab.async false
set_option linter.all false
set_option maxRecDepth 100000
set_option maxHeartbeats 4000000
namespace K09
open PySem L2 Sb
variable {P : Program} {w : World} {K : PySem.W.Frag} {mg : Str → Option Value} {base : Heap}
/-- bag(script, at): a new bag -/
def spBag (K : PySem.W.Frag) : Sp := fun vs H Q _ => ∃ (a : Addr) (ns : List Int) (i : Nat), vs = [.ref a, .int i] ∧ SqL K H a (ns.map V.int) ∧ i ≤ 100 ∧ ns.length ≤ 63 ∧
  ∀ (H' : Hp) (p : Addr), H p = none → Same H H' → Bag H' p 0 → Q (.ref p) H'
theorem ok_bag {f : Addr} {fd : FuncData} (F : Fun K "_law_bag" "_law_bag" sL_bag f fd) (T : Txt K mg) : FnOk P w K mg base CX0 1 f fd ["_law_script", "_law_at"] (spBag K) := by
  refine F.ok scL_bag (fun vs H Q E h => ?_) (fun cdv A outer s H vs Q E hr h => ?_)
  · obtain ⟨a, ns, i, rfl, _⟩ := h
    rfl
  · obtain ⟨a, ns, i, rfl, hS, hi, hn, k⟩ := h
    refine ⟨_, (C8.pss_cut (ps_set (i := 2) scL_bag.nd rfl (Or.inl rfl) (pe_ifExp (pt_cmpR op_lt (pv 1) (pe_callB call_len_seq (by rfl) T.b_len (by decide +kernel) (pa_cons (pv 0) pa_nil)) (nomark _)) (pe_ix ix_list (pv 0) (pv 1) (fun _ _ => rfl)) pe_int))
  (C8.pss_cut (ps_set (i := 3) scL_bag.nd rfl (Or.inl rfl) (pe_ifExp (pt_cmpR op_ge (pe_callB call_abs (by rfl) T.b_abs (by decide +kernel) (pa_cons (pv 2) pa_nil)) (pe_op Sb.op_powB pe_int pe_int) (nomark _)) (pe_callB call_abs (by rfl) T.b_abs (by decide +kernel) (pa_cons (pv 2) pa_nil)) pe_int))
  (pss_one (ps_ret (pe_lst (pa_cons (pv 3) (pa_cons (pe_op op_add (pe_op op_add (pe_op op_mul (pe_op op_mod (pe_callTy call_int1 (by rfl) T.b_int (by decide +kernel) (pa_cons (pv 2) pa_nil)) pe_int) pe_int) (pe_op op_mul pe_int (pv 1))) pe_int) (pa_cons pe_int pa_nil)))))))), ?_⟩
    refine ⟨fun σ' H' => ∃ z : Int, σ' = [some (.ref a), some (.int i), some (.int z), none] ∧ H' = H, ?_, ?_⟩
    · refine ⟨_, rfl, _, rfl, a, _, rfl, .inl hS, _, _, rfl, rfl, _, rfl, ?_⟩
      refine ite2 (fun hc => ?_) (fun hc => ?_)
      · have hc' : (i : Int) < ((ns.map V.int).length : Nat) := of_decide_eq_true hc
        have hl : i < ns.length := by
          rw [List.length_map] at hc'
          omega
        exact ⟨_, rfl, _, rfl, a, _, _, .int ns[i], rfl, rfl, hS, atI_nat (by simp [hl]), ns[i], rfl, rfl⟩
      · exact ⟨0, rfl, rfl⟩
    · rintro σ' H' ⟨z, rfl, rfl⟩
      refine ⟨fun σ' H1 => ∃ g : Int, 0 ≤ g ∧ σ' = [some (.ref a), some (.int i), some (.int z), some (.int g)] ∧ H1 = H', ?_, ?_⟩
      · refine ⟨_, rfl, _, rfl, _, _, rfl, rfl, pow_fits (k := 10) (by decide) (by decide) (by decide), _, _, rfl, rfl, _, rfl, ?_⟩
        refine ite2 (fun hc => ?_) (fun hc => ?_)
        · exact ⟨_, rfl, _, rfl, _, by split <;> omega, rfl, rfl⟩
        · exact ⟨0, by omega, rfl, rfl⟩
      · rintro σ' H1 ⟨g, hg, rfl, rfl⟩
        have y0 : 0 ≤ z % 2305843009213693951 := Int.emod_nonneg _ (by decide)
        have y1 : z % 2305843009213693951 < 2305843009213693951 := Int.emod_lt_of_pos _ (by decide)
        refine ⟨_, rfl, _, rfl, .inl ⟨_, rfl, _, _, rfl, rfl, (by show (0 : Int) < 2305843009213693951; decide), _, _, rfl, rfl, .inr ⟨by decide, by decide⟩, _, rfl, _, _, rfl, rfl, .inl ⟨by decide, by decide⟩, _, _, rfl, rfl, _, _, rfl, rfl, (by show 3 ≤ sizeLine; decide), fun p hp => ?_⟩⟩
        refine k _ p hp (Sb.Same.upd hp) ⟨g, _, 0, upd_same, hg, ?_, ?_, by omega, by omega⟩
        · generalize z % 2305843009213693951 = y at *
          omega
        · have : (2 : Int) ^ 100 = 1267650600228229401496703205376 := by decide
          generalize z % 2305843009213693951 = y at *
          omega

end K09

set_option Elab.async false
set_option linter.all false
set_option maxRecDepth 100000
set_option maxHeartbeats 4000000
namespace K09
open PySem L2 Sb
variable {P : Program} {w : World} {K : PySem.W.Frag} {mg : Str → Option Value} {base : Heap}
/-- is_number(x): x an int or a text -/
def spNum : Sp := fun vs H Q _ => ∃ x : Pl, vs = [x.v] ∧ Q (.bl (match x with | .num _ => true | .word _ => false)) H
theorem ok_num {f : Addr} {fd : FuncData} (F : Fun K "is_number" "is_number" sis_number f fd) (T : Txt K mg) : FnOk P w K mg base CX0 1 f fd ["value"] spNum := by
  refine F.ok scis_number (fun vs H Q E h => ?_) (fun cdv A outer s H vs Q E hr h => ?_)
  · obtain ⟨x, rfl, _⟩ := h
    rfl
  · obtain ⟨x, rfl, k⟩ := h
    refine ⟨_, (pss_one (ps_ret (pe_and (pe_callB call_isi (by rfl) T.b_isinstance (by decide +kernel) (pa_cons (pv 0) (pa_cons (pe_bltn (v := .ty "int") (by rfl) T.b_int (by decide +kernel) rfl) pa_nil))) (pe_one (pe_not (pe_callB call_isi (by rfl) T.b_isinstance (by decide +kernel) (pa_cons (pv 0) (pa_cons (pe_bltn (v := .ty "bool") (by rfl) T.b_bool (by decide +kernel) rfl) pa_nil)))))))), ?_⟩
    cases x with
    | num n =>
      refine ⟨_, rfl, _, _, _, _, true, rfl, .ty _, .base (.int _), kit_ty (by decide +kernel), true, rfl, iteT ?_⟩
      exact ⟨_, rfl, _, _, _, _, false, rfl, .ty _, .base (.int _), kit_ty (by decide +kernel), false, rfl, k⟩
    | word z =>
      exact ⟨_, rfl, _, _, _, _, false, rfl, .ty _, .base (.str _), kit_ty (by decide +kernel), false, rfl, iteF k⟩

end K09

set_option Elab.async false
set_option linter.all false
set_option maxRecDepth 100000
set_option maxHeartbeats 4000000
namespace K09
open PySem L2 Sb
variable {P : Program} {w : World} {K : PySem.W.Frag} {mg : Str → Option Value} {base : Heap}
/-- is_follower(x, size, words) -/
def spFol (K : PySem.W.Frag) : Sp := fun vs H Q _ => ∃ (x : Pl) (n : Nat) (wa : Addr) (ws : List Str), vs = [x.v, .int n, .ref wa] ∧ SqT K H wa (ws.map V.str) ∧ Q (.bl (decide (x.Ok n ws))) H
theorem inV_str {z : Str} {ws : List Str} : inV (.str z) (ws.map V.str) = decide (z ∈ ws) := by
  unfold inV
  induction ws with
  | nil => rfl
  | cons y r ih =>
    rw [List.map_cons, List.any_cons, ih]
    show ((y == z) || decide (z ∈ r)) = decide (z ∈ y :: r)
    by_cases h : y = z
    · subst h
      simp
    · have h1 : (y == z) = false := by simpa using h
      have h2 : ¬ z = y := fun e => h e.symm
      rw [h1, Bool.false_or]
      simp [h2]
theorem flat_strs : ∀ ws : List Str, (ws.map V.str).all flatV = true
  | [] => rfl
  | _ :: r => flat_strs r
theorem ok_fol {f fN : Addr} {fd fdN : FuncData} (F : Fun K "is_follower" "is_follower" sis_follower f fd) (T : Txt K mg) (G_is_number : Fx P w K mg base CX0 1 "is_number" fN fdN ["value"] spNum) :
    FnOk P w K mg base CX0 2 f fd ["value", "size", "words"] (spFol K) := by
  refine F.ok scis_follower (fun vs H Q E h => ?_) (fun cdv A outer s H vs Q E hr h => ?_)
  · obtain ⟨x, n, wa, ws, rfl, _⟩ := h
    rfl
  · obtain ⟨x, n, wa, ws, rfl, hw, k⟩ := h
    refine ⟨_, (pss_cons (ps_if (pt_val (pe_callB call_isi (by rfl) T.b_isinstance (by decide +kernel) (pa_cons (pv 0) (pa_cons (pe_bltn (v := .ty "str") (by rfl) T.b_str (by decide +kernel) rfl) pa_nil)))) (pss_one (ps_ret (pe_cmpR op_in_seq (pv 0) (pv 2) (by rfl)))) pss_nil)
  (pss_one (ps_ret (pe_and (pe_call G_is_number.ok (hr.mono (by decide)) rfl G_is_number.mg G_is_number.kp G_is_number.bd .nil pass0 (pa_cons (pv 0) pa_nil)) (pe_one (pe_chain op_le op_lt pe_int (pv 0) (pv 1))))))), ?_⟩
    cases x with
    | word z =>
      refine ⟨_, rfl, _, _, _, _, true, rfl, .ty _, .base (.str _), kit_ty (by decide +kernel), true, rfl, iteT ?_⟩
      refine ⟨_, rfl, _, rfl, wa, _, rfl, .inr hw, rfl, flat_strs ws, ?_⟩
      show Q (.bl (inV (.str z) (ws.map V.str))) H
      rw [inV_str]
      exact k
    | num m =>
      refine ⟨_, rfl, _, _, _, _, false, rfl, .ty _, .base (.int _), kit_ty (by decide +kernel), false, rfl, iteF ?_⟩
      refine ⟨_, rfl, .num m, rfl, true, rfl, iteT ?_⟩
      refine ⟨_, rfl, _, _, rfl, rfl, true, ?_, iteT ?_⟩
      · exact congrArg V.bl (decide_eq_true (by show (0 : Int) ≤ (m : Int); omega))
      · refine ⟨_, rfl, _, _, rfl, rfl, ?_⟩
        have e : decide ((m : Int) < (n : Int)) = decide ((Pl.num m).Ok n ws) := by
          show decide ((m : Int) < (n : Int)) = decide (m < n)
          rw [Bool.eq_iff_iff]
          simp
        show Q (.bl (decide ((m : Int) < (n : Int)))) H
        rw [e]
        exact k

end K09

set_option Elab.async false
set_option linter.all false
set_option maxRecDepth 100000
set_option maxHeartbeats 4000000
namespace K09
open PySem L2 Sb
variable {P : Program} {w : World} {K : PySem.W.Frag} {mg : Str → Option Value} {base : Heap}
/-- is_row(v, size, words) of a row -/
def spRow (K : PySem.W.Frag) : Sp := fun vs H Q _ => ∃ (v : V) (r : Row) (n : Nat) (wa : Addr) (ws : List Str), vs = [v, .int n, .ref wa] ∧ RowAt H v r ∧ SqT K H wa (ws.map V.str) ∧
  ∀ H', Same H H' → Q (.bl (decide (r.Ok n ws))) H'
theorem ok_row {f fN fF : Addr} {fd fdN fdF : FuncData} (F : Fun K "is_row" "is_row" sis_row f fd) (T : Txt K mg) (G_is_number : Fx P w K mg base CX0 1 "is_number" fN fdN ["value"] spNum)
    (G_is_follower : Fx P w K mg base CX0 2 "is_follower" fF fdF ["value", "size", "words"] (spFol K)) :
    FnOk P w K mg base CX0 3 f fd ["value", "size", "words"] (spRow K) := by
  refine F.ok scis_row (fun vs H Q E h => ?_) (fun cdv A outer s H vs Q E hr h => ?_)
  · obtain ⟨v, r, n, wa, ws, rfl, _⟩ := h
    rfl
  · obtain ⟨v, r, n, wa, ws, rfl, ⟨a, rfl, ha⟩, hw, k⟩ := h
    refine ⟨_, (pss_cons (ps_if (PW.pt (pw_or (pt_not (pt_val (pe_callB call_isi (by rfl) T.b_isinstance (by decide +kernel) (pa_cons (pv 0) (pa_cons (pe_bltn (v := .ty "tuple") (by rfl) T.b_tuple (by decide +kernel) rfl) pa_nil))))) (pw_or1 (pt_cmpR op_ne (pe_callB call_len_seq (by rfl) T.b_len (by decide +kernel) (pa_cons (pv 0) pa_nil)) pe_int (nomark _))))) (pss_one (ps_ret pe_bl)) pss_nil)
  (pss_cons (ps_asg (pv 0) (pg_tup rfl (pgs_cons (pg_name (i := 3) scis_row.nd rfl (Or.inl rfl)) (pgs_cons (pg_name (i := 4) scis_row.nd rfl (Or.inl rfl)) (pgs_cons (pg_name (i := 5) scis_row.nd rfl (Or.inl rfl)) pgs_nil)))))
  (pss_cons (ps_if (PW.pt (pw_or (pt_not (pt_val (pe_call G_is_number.ok (hr.mono (by decide)) rfl G_is_number.mg G_is_number.kp G_is_number.bd .nil pass0 (pa_cons (pv 3) pa_nil)))) (pw_or1 (pt_cmpR op_notIn_seq (pv 3) (pe_tup (pa_cons pe_int (pa_cons pe_int pa_nil))) (by rfl))))) (pss_one (ps_ret pe_bl)) pss_nil)
  (pss_one (ps_ret (pe_and (pe_call G_is_follower.ok (hr.mono (by decide)) rfl G_is_follower.mg G_is_follower.kp G_is_follower.bd .nil pass0 (pa_cons (pv 4) (pa_cons (pv 1) (pa_cons (pv 2) pa_nil)))) (pe_one (pe_call G_is_follower.ok (hr.mono (by decide)) rfl G_is_follower.mg G_is_follower.kp G_is_follower.bd .nil pass0 (pa_cons (pv 5) (pa_cons (pv 1) (pa_cons (pv 2) pa_nil))))))))))), ?_⟩
    refine ⟨_, rfl, _, _, _, _, true, rfl, .ty _, .base (.tup ha), kit_ty (by decide +kernel), true, rfl, iteF ?_⟩
    refine ⟨_, rfl, a, _, rfl, .inr (SqT.of ha), ?_⟩
    refine ⟨rfl, _, rfl, iteNS rfl ?_⟩
    refine ⟨_, rfl, a, _, rfl, SqT.of ha, rfl, _, _, rfl, _, _, rfl, _, _, rfl, rfl, ?_⟩
    refine ⟨_, rfl, .num r.put, rfl, true, rfl, iteF ?_⟩
    refine ⟨_, rfl, (by show 2 ≤ sizeLine; decide), fun p hp => ?_⟩
    generalize eh : upd H p _ = H1
    have s1 : Same H H1 := by rw [← eh]; exact Sb.Same.upd hp
    have ep : H1 p = some (.tup [.int 0, .int 1]) := by rw [← eh]; exact upd_same
    refine ⟨p, _, rfl, .inr (SqT.of ep), rfl, rfl, ?_⟩
    have ein : inV (V.int (r.put : Int)) [V.int 0, V.int 1] = decide (r.put = 0 ∨ r.put = 1) := by
      show (((0 : Int) == (r.put : Int)) || (((1 : Int) == (r.put : Int)) || false)) = _
      rw [Bool.eq_iff_iff]
      simp
      omega
    by_cases hput : r.put = 0 ∨ r.put = 1
    · rw [decide_eq_true hput] at ein
      refine ⟨false, congrArg (fun b => V.bl (!b)) ein, iteF ?_⟩
      have hw1 := sqT_same s1 hw
      refine ⟨_, rfl, _, rfl, _, rfl, r.a, n, wa, ws, rfl, hw1, _, rfl, ?_⟩
      refine ite2 (fun hc => ?_) (fun hc => ?_)
      · have ha1 : r.a.Ok n ws := of_decide_eq_true hc
        refine ⟨_, rfl, _, rfl, _, rfl, r.b, n, wa, ws, rfl, hw1, ?_⟩
        have e : decide (r.b.Ok n ws) = decide (r.Ok n ws) := by
          rw [Bool.eq_iff_iff]
          simp [Row.Ok, hput, ha1]
        rw [e]
        exact k _ s1
      · have ha1 : ¬ r.a.Ok n ws := fun z => hc (decide_eq_true z)
        have e : false = decide (r.Ok n ws) := by
          rw [Bool.eq_iff_iff]
          simp [Row.Ok, ha1]
        rw [e]
        exact k _ s1
    · rw [decide_eq_false hput] at ein
      refine ⟨true, congrArg (fun b => V.bl (!b)) ein, iteT ?_⟩
      have e : false = decide (r.Ok n ws) := by
        rw [Bool.eq_iff_iff]
        simp only [Row.Ok, hput]
        simp
      show Q (V.bl false) _
      rw [e]
      exact k _ s1

end K09

set_option Elab.async false
set_option linter.all false
set_option maxRecDepth 100000
set_option maxHeartbeats 4000000
namespace K09
open PySem L2 Sb
variable {P : Program} {w : World} {K : PySem.W.Frag} {mg : Str → Option Value} {base : Heap}
/-- a list or a tuple -/
def SqE (K : PySem.W.Frag) (H : Hp) (a : Addr) (xs : List V) : Prop := SqL K H a xs ∨ SqT K H a xs
theorem SqE.same {H H' : Hp} {a : Addr} {xs : List V} (s : Same H H') (h : SqE K H a xs) : SqE K H' a xs := h.elim (fun z => .inl (s.seq z)) (fun z => .inr (sqT_same s z))
theorem SqE.ix {H : Hp} {a : Addr} {xs : List V} {i : Int} {v : V} {Q : VK} (h : SqE K H a xs) (e : atI xs i = some v) (q : Q v H) : rIx K (.ref a) (.int i) H Q :=
  h.elim (fun z => .inl ⟨a, _, _, v, rfl, rfl, z, e, q⟩) (fun z => .inr (.inl ⟨a, _, _, v, rfl, rfl, z, e, q⟩))
/-- reached(rows, begin): just what is led to, each once -/
def spReach (K : PySem.W.Frag) : Sp := fun vs H Q _ => ∃ (l : Addr) (b : Nat) (xs : List V) (rows : List Row) (ws : List Str), vs = [.ref l, .int b] ∧ SqE K H l xs ∧ RowsV H xs rows ∧ b < rows.length ∧ rows.length ≤ 1000 ∧
  (∀ r, r ∈ rows → r.Ok rows.length ws) ∧ ∀ (H' : Hp) (p : Addr) (ps : List Pl), Same H H' → H p = none → H' p = some (.lst (ps.map Pl.v)) → ps.Nodup → (∀ x, x ∈ ps ↔ Reach rows b x) → Q (.ref p) H'
def kvsOf (fs : List Pl) : List (Key × V) := fs.map fun x => (x.key, .bl true)
theorem val_of (p : Pl) : ∀ fs : List Pl, (valV (kvsOf fs) p.key).isSome = decide (p ∈ fs)
  | [] => by simp [kvsOf, valV_nil]
  | q :: r => by
    by_cases e : q.key = p.key
    · have e2 := Pl.key_inj e
      subst e2
      rw [show kvsOf (q :: r) = (q.key, V.bl true) :: kvsOf r from rfl, valV_pos rfl]
      simp
    · rw [show kvsOf (q :: r) = (q.key, V.bl true) :: kvsOf r from rfl, valV_neg e, val_of p r]
      have h : ¬ p = q := fun z => e (by rw [z])
      simp [h]
theorem ok_reach {f fN : Addr} {fd fdN : FuncData} (F : Fun K "reached" "reached" sreached f fd) (T : Txt K mg) (G_is_number : Fx P w K mg base CX0 1 "is_number" fN fdN ["value"] spNum) :
    FnOk P w K mg base CX0 2 f fd ["rows", "begin"] (spReach K) := by
  refine F.ok screached (fun vs H Q E h => ?_) (fun cdv A outer s H vs Q E hr h => ?_)
  · obtain ⟨l, b, xs, rows, ws, rfl, _⟩ := h
    rfl
  · obtain ⟨l, b, xs, rows, ws, rfl, hl, hR, hb, hsz, hok, k⟩ := h
    refine ⟨_, (pss_cons (ps_set (i := 2) screached.nd rfl (Or.inl rfl) (pe_disp (pps_cons (pv 1) pe_bl pps_nil) (by rfl) (by rfl) (fun z => by cases z) (by decide)))
  (pss_cons (ps_set (i := 3) screached.nd rfl (Or.inl rfl) (pe_lst (pa_cons (pv 1) pa_nil)))
  (pss_cons (ps_while PassesOwn.never (pt_truth (pv 3) (by intro _; rfl)) (pss_cons (ps_set (i := 4) screached.nd rfl (Or.inl rfl) (pe_bm0 PySem.F.plainAttrs_list PySem.F.slot_list_pop PySem.F.type_list_pop mt_pop (pv 3)))
  (pss_one (ps_for PassesOwn.never rfl (pi_tup (pe_slice sl_tup (pe_ix ix_seq (pv 0) (pv 4) (fun _ _ => rfl)) (po_some pe_int) po_none)) (pg_name (i := 5) screached.nd rfl (Or.inl rfl)) (pss_cons (ps_if (pt_cmp (pc_din (hu_of hr) (pv 5) (pv 2))) (pss_one ps_continue) pss_nil)
  (pss_cons (ps_dput (hu_of hr) (pv 2) (pv 5) pe_bl rfl)
  (pss_one (ps_if (pt_val (pe_call G_is_number.ok (hr.mono (by decide)) rfl G_is_number.mg G_is_number.kp G_is_number.bd .nil pass0 (pa_cons (pv 5) pa_nil))) (pss_one (ps_expr (pe_bm PySem.F.plainAttrs_list PySem.F.slot_list_append PySem.F.type_list_append mt_append (pv 3) (pa_cons (pv 5) pa_nil)))) pss_nil))))))))
  (pss_one (ps_ret (pe_callTy (call_list_dK rfl) (by rfl) T.b_list (by decide +kernel) (pa_cons (pv 2) pa_nil))))))), ?_⟩
    intro fa hfa
    refine ⟨_, rfl, upd_same, [(.inl b, .bl true)], rfl, (by show 1 ≤ 15; decide), ?_⟩
    generalize eh : upd (upd H fa _) fa _ = H1
    have s1 : Same H H1 := by rw [← eh, upd_upd]; exact Sb.Same.upd hfa
    have ef : H1 fa = some (.dK (kvsOf [.num b])) := by rw [← eh]; exact upd_same
    refine ⟨_, rfl, (by show 1 ≤ sizeLine; decide), fun aa haa => ?_⟩
    have haH : H aa = none := s1.free haa
    have nfa : fa ≠ aa := ne_of_none ef haa
    have big : ∀ n : Nat, n ≤ 100000 → n < sizeLine := fun n h => Nat.lt_of_le_of_lt h (by decide)
    refine ⟨fun m σ H' => ∃ (fs : List Pl) (as : List Nat) (v4 v5 : Option V), σ = [some (.ref l), some (.int b), some (.ref fa), some (.ref aa), v4, v5] ∧ Same H H' ∧ H' fa = some (.dK (kvsOf fs)) ∧
        H' aa = some (.lst (as.map fun (i : Nat) => V.int (i : Int))) ∧ RInv rows b fs as none ∧ m = 2 * (rows.length - nums fs) + as.length ∧ as.length ≤ nums fs ∧ fs.length + 2 * as.length ≤ 1 + 2 * nums fs,
      ⟨_, [.num b], [b], none, none, rfl, s1.trans (Sb.Same.upd haa), by rw [upd_ne nfa]; exact ef, upd_same, RInv.begin hb, rfl, Nat.le_refl 1, Nat.le_refl 3⟩, ?_⟩
    rintro m σ H2 ⟨fs, as, v4, v5, rfl, s2, f2, a2, I, rfl, c1, c2⟩
    refine ⟨_, rfl, _, .inl ⟨_, SqL.of a2, rfl⟩, ?_⟩
    refine ite2 (fun hc => ?_) (fun hc => ?_)
    · -- a row is taken
      obtain ⟨as', i, rfl⟩ : ∃ as' i, as = as' ++ [i] := by
        rcases List.eq_nil_or_concat as with z | ⟨as', i, z⟩
        · subst z
          exact absurd hc (by decide)
        · exact ⟨as', i, by simpa using z⟩
      have hi : i < rows.length := I.small i (I.sub i (by simp))
      obtain ⟨r, hr⟩ : ∃ r, rows[i]? = some r := ⟨rows[i], List.getElem?_eq_getElem hi⟩
      have hrok := hok r (List.mem_of_getElem? hr)
      obtain ⟨v, hv, hva⟩ := hR.get' i r hr
      obtain ⟨ra, rfl, hra⟩ := RowAt.same s2 hva
      refine ⟨fun σ' H' => ∃ m', m' < 2 * (rows.length - nums fs) + (as' ++ [i]).length ∧ ∃ (fs : List Pl) (as : List Nat) (v4 v5 : Option V), σ' = [some (.ref l), some (.int b), some (.ref fa), some (.ref aa), v4, v5] ∧ Same H H' ∧ H' fa = some (.dK (kvsOf fs)) ∧
        H' aa = some (.lst (as.map fun (i : Nat) => V.int (i : Int))) ∧ RInv rows b fs as none ∧ m' = 2 * (rows.length - nums fs) + as.length ∧ as.length ≤ nums fs ∧ fs.length + 2 * as.length ≤ 1 + 2 * nums fs, fun σ' H' z => z, ?_⟩
      have ed : ((as' ++ [i]).map fun (i : Nat) => V.int (i : Int)).dropLast = as'.map fun (i : Nat) => V.int (i : Int) := by
        rw [List.map_append, List.map_singleton, List.dropLast_concat]
      refine ⟨_, rfl, .inl ⟨rfl, _, SqL.of a2⟩, aa, _, .int i, rfl, rfl, a2, by simp, ?_⟩
      rw [ed]
      generalize eh3 : upd H2 aa _ = H3
      have a3 : H3 aa = some (.lst (as'.map fun (i : Nat) => V.int (i : Int))) := by rw [← eh3]; exact upd_same
      have s3 : Same H H3 := fun c o e => by rw [← eh3, upd_ne (ne_of_none e haH)]; exact s2 c o e
      have f3 : H3 fa = some (.dK (kvsOf fs)) := by rw [← eh3, upd_ne nfa]; exact f2
      have nra : ra ≠ aa := ne_of hra a2 (by intro z; cases z)
      have r3 : H3 ra = some (.tup r.vs) := by rw [← eh3, upd_ne nra]; exact hra
      refine ⟨_, rfl, _, rfl, (hl.same s3).ix (atI_nat hv) ⟨_, rfl, ?_⟩⟩
      refine ⟨ra, _, rfl, SqT.of r3, (by intro z; have z1 : HT.sIx 3 0 (some 1) = 0 := z.1; revert z1; decide), fun q hq => ?_⟩
      generalize eh4 : upd H3 q _ = H4
      have t4 : Same H3 H4 := by rw [← eh4]; exact Sb.Same.upd hq
      have q4 : H4 q = some (.tup [r.a.v, r.b.v]) := by rw [← eh4]; exact upd_same
      refine ⟨q, rfl, ⟨_, SqT.of q4⟩, for_tup (K := K) (a := q) (xs := [r.a.v, r.b.v]) (fun j σ' H' => ∃ (fs' : List Pl) (as'' : List Nat) (v5 : Option V), σ' = [some (.ref l), some (.int b), some (.ref fa), some (.ref aa), some (.int i), v5] ∧ Same H H' ∧
        H' fa = some (.dK (kvsOf fs')) ∧ H' aa = some (.lst (as''.map fun (i : Nat) => V.int (i : Int))) ∧ RInv rows b fs' as'' (some (i, j)) ∧ 2 * (rows.length - nums fs') + as''.length < 2 * (rows.length - nums fs) + (as' ++ [i]).length ∧
        as''.length + 1 ≤ nums fs' ∧ fs'.length + 2 * as''.length + 2 ≤ 1 + 2 * nums fs' + j ∧ H' q = some (.tup [r.a.v, r.b.v]))
        ⟨fs, as', v5, rfl, s3.trans t4, t4 _ _ f3, t4 _ _ a3, I.pop, by simp, by simpa using c1, by simp at c2; omega, q4⟩ (fun _ _ _ _ z => by
          obtain ⟨_, _, _, _, _, _, _, _, _, _, _, z⟩ := z
          exact SqT.of z) ?_ ?_⟩
      · rintro j x σ' H5 hx ⟨fs', as'', v5, rfl, s5, f5, a5, I5, m5, d1, d2, q5⟩
        obtain ⟨p, rfl, hp⟩ : ∃ p : Pl, x = p.v ∧ ((j = 0 ∧ p = r.a) ∨ (j = 1 ∧ p = r.b)) := by
          match j, hx with
          | 0, hx => exact ⟨r.a, (Option.some.inj hx).symm, .inl ⟨rfl, rfl⟩⟩
          | 1, hx => exact ⟨r.b, (Option.some.inj hx).symm, .inr ⟨rfl, rfl⟩⟩
          | j + 2, hx => simp at hx
        have nle : nums fs' ≤ rows.length := nums_le I5.nd I5.small
        refine ⟨_, rfl, _, rfl, fa, _, rfl, by rw [Pl.v_key]; exact DGet.k f5, _, rfl, ?_⟩
        rw [val_of]
        refine ite2 (fun hc => ?_) (fun hc => ?_)
        · have hf : p ∈ fs' := of_decide_eq_true hc
          exact ⟨fs', as'', _, rfl, s5, f5, a5, I5.skip hr hp hf, m5, d1, by omega, q5⟩
        · have hf : p ∉ fs' := fun z => hc (decide_eq_true z)
          have hsm : ∀ k, p = .num k → k < rows.length := fun k e => by
            rcases hp with ⟨_, e2⟩ | ⟨_, e2⟩
            · have := hrok.2.1
              rw [← e2, e] at this
              exact this
            · have := hrok.2.2
              rw [← e2, e] at this
              exact this
          have I6 := I5.add hr hp hf hsm
          have nle6 := nums_le I6.nd I6.small
          rw [nums_snoc] at nle6
          have en : valV (kvsOf fs') p.key = none := by
            have z := val_of p fs'
            rw [decide_eq_false hf] at z
            cases e : valV (kvsOf fs') p.key with
            | none => rfl
            | some y =>
              rw [e] at z
              cases z
          have ek : putK (kvsOf fs') p.key (.bl true) = kvsOf (fs' ++ [p]) := by
            rw [putK_new _ en]
            simp [kvsOf]
          refine ⟨_, rfl, _, rfl, fa, _, rfl, by rw [Pl.v_key]; exact DPut.k f5 (by rw [kvsOf, List.length_map]; exact big _ (by omega)), ?_⟩
          rw [ek]
          generalize eh6 : upd H5 fa _ = H6
          have f6 : H6 fa = some (.dK (kvsOf (fs' ++ [p]))) := by rw [← eh6]; exact upd_same
          have s6 : Same H H6 := fun c o e => by rw [← eh6, upd_ne (ne_of_none e hfa)]; exact s5 c o e
          have a6 : H6 aa = some (.lst (as''.map fun (i : Nat) => V.int (i : Int))) := by rw [← eh6, upd_ne (Ne.symm nfa)]; exact a5
          have nq : q ≠ fa := ne_of q5 f5 (by intro z; cases z)
          have nqa : q ≠ aa := ne_of q5 a5 (by intro z; cases z)
          have q6 : H6 q = some (.tup [r.a.v, r.b.v]) := by rw [← eh6, upd_ne nq]; exact q5
          refine ⟨_, rfl, p, rfl, _, rfl, ?_⟩
          cases p with
          | num z =>
            refine iteT ?_
            refine ⟨_, rfl, .inl ⟨rfl, _, SqL.of a6⟩, _, rfl, aa, _, _, rfl, rfl, a6, by rw [List.length_map]; exact big _ (by omega), ?_⟩
            refine ⟨fs' ++ [.num z], as'' ++ [z], _, rfl, fun c o e => by rw [upd_ne (ne_of_none e haH)]; exact s6 c o e, by rw [upd_ne nfa]; exact f6, by rw [upd_same]; simp [Pl.v], I6, ?_, ?_, ?_, by rw [upd_ne nqa]; exact q6⟩
            · rw [nums_snoc]
              simp at nle6 ⊢
              simp at m5
              omega
            · rw [nums_snoc]
              simp
              omega
            · rw [nums_snoc]
              simp
              omega
          | word z =>
            refine iteF ?_
            refine ⟨fs' ++ [.word z], as'', _, rfl, s6, f6, a6, I6, ?_, ?_, ?_, q6⟩
            · rw [nums_snoc]
              simpa using m5
            · rw [nums_snoc]
              simpa using d1
            · rw [nums_snoc]
              simp
              omega
      · rintro σ' H5 ⟨fs', as'', v5, rfl, s5, f5, a5, I5, m5, d1, d2, q5⟩
        have I6 : RInv rows b fs' as'' none := RInv.done I5
        have d2' : fs'.length + 2 * as''.length + 2 ≤ 1 + 2 * nums fs' + 2 := d2
        exact ⟨_, m5, fs', as'', _, _, rfl, s5, f5, a5, I6, rfl, by omega, by omega⟩
    · -- nothing is ahead
      have e0 : as = [] := by
        cases as with
        | nil => rfl
        | cons x r => exact absurd rfl hc
      subst e0
      refine ⟨_, rfl, fa, _, rfl, f2, fun q hq => ?_⟩
      have em : (kvsOf fs).map (fun kv => kV kv.1) = fs.map Pl.v := by
        simp [kvsOf, Pl.v_key]
      rw [em]
      exact k _ q fs (s2.trans (Sb.Same.upd hq)) (s2.free hq) upd_same I.nd I.all

end K09

set_option Elab.async false
set_option linter.all false
set_option maxRecDepth 100000
set_option maxHeartbeats 4000000
namespace K09
open PySem L2 Sb
variable {P : Program} {w : World} {K : PySem.W.Frag} {mg : Str → Option Value} {base : Heap}
theorem ok_bad {f C : Addr} {fd : FuncData} (F : Fun K "__init__" "BadEnd.__init__" sBadEnd_init f fd) (c : OexC K C) (n1 : PySem.W.findIn K (.ref C) "part" = some none) (n2 : PySem.W.findIn K (.ref C) "row" = some none) :
    FnOk P w K mg base CX0 1 f fd ["self", "part", "row"] (spBadInit C) := by
  refine F.ok scBadEnd_init (fun vs H Q E h => ?_) (fun cdv A outer s H vs Q E hr h => ?_)
  · obtain ⟨a, v1, v2, rfl, _⟩ := h
    rfl
  · obtain ⟨a, v1, v2, rfl, ea, k⟩ := h
    refine ⟨_, (pss_cons (ps_ost (pv 0) (pv 1))
  (pss_one (ps_ost (pv 0) (pv 2)))), ?_⟩
    refine ⟨_, rfl, _, rfl, a, C, rfl, c, n1, .inl ⟨ea, fun dx hdx ne => ?_⟩⟩
    refine ⟨_, rfl, _, rfl, a, C, rfl, c, n2, .inr ⟨dx, _, upd_same, by rw [upd_ne ne]; exact upd_same, (by show 1 ≤ 900; decide), ?_⟩⟩
    exact k _ dx (by rw [upd_ne (Ne.symm ne)]; exact upd_same) hdx ne upd_same fun b o e hb => by
      rw [upd_ne (ne_of_none e hdx), upd_ne hb, upd_ne (ne_of_none e hdx)]
      exact e

end K09

set_option Elab.async false
set_option linter.all false
set_option maxRecDepth 100000
set_option maxHeartbeats 4000000
namespace K09
open PySem L2 Sb
variable {P : Program} {w : World} {K : PySem.W.Frag} {mg : Str → Option Value} {base : Heap}
/-- check_machine(part, machine, fewest, most, words) of a list of rows -/
def spCheck (K : PySem.W.Frag) (C : Addr) : Sp := fun vs H Q E => ∃ (part : V) (l : Addr) (few most : Nat) (wa : Addr) (xs : List V) (rows : List Row) (ws : List Str), vs = [part, .ref l, .int few, .int most, .ref wa] ∧ H l = some (.lst xs) ∧ RowsV H xs rows ∧
  SqT K H wa (ws.map V.str) ∧ (¬ (few ≤ rows.length ∧ rows.length ≤ most) → BadAt C H part .non E) ∧
  (few ≤ rows.length → rows.length ≤ most → ∀ (i : Nat) (r : Row), rows[i]? = some r → ¬ r.Ok rows.length ws → (∀ (j : Nat) (r' : Row), j < i → rows[j]? = some r' → r'.Ok rows.length ws) → BadAt C H part (.int (i : Int)) E) ∧
  (few ≤ rows.length → rows.length ≤ most → (∀ r, r ∈ rows → r.Ok rows.length ws) → ∀ H', Same H H' → Q .non H')
theorem pair_classes : Paired ClsV [V.ty "list", V.ty "tuple"] [Value.type "list", Value.type "tuple"] := .cons (.ty _) (.cons (.ty _) .nil)
theorem kit_list {K : PySem.W.Frag} : PySem.W.kitAny K (.type "list") [Value.type "list", Value.type "tuple"] = some true :=
  kitAny_cons (b := true) (r := true) (kit_ty (by decide +kernel)) (fun z => by cases z) fun _ => rfl
theorem ok_check {f fR fI C : Addr} {fd fdR fdI : FuncData} (F : Fun K "check_machine" "check_machine" scheck_machine f fd) (T : Txt K mg) (G_is_row : Fx P w K mg base CX0 3 "is_row" fR fdR ["value", "size", "words"] (spRow K))
    (O_BadEnd : Ox P w K mg base 1 "BadEnd" C fI fdI ["self", "part", "row"] (spBadInit C)) :
    FnOk P w K mg base (L2.CX P w) 4 f fd ["part", "machine", "fewest", "most", "words"] (spCheck K C) := by
  refine F.okX sccheck_machine (fun vs H Q E h => ?_) (fun cdv A outer s H vs Q E hr h => ?_)
  · obtain ⟨part, l, few, most, wa, xs, rows, ws, rfl, _⟩ := h
    rfl
  · obtain ⟨part, l, few, most, wa, xs, rows, ws, rfl, hl, hR, hw, k1, k2, k3⟩ := h
    refine ⟨_, (pss_cons (ps_if (PW.pt (pw_or (pt_not (pt_val (pe_callB call_isiT (by rfl) T.b_isinstance (by decide +kernel) (pa_cons (pv 1) (pa_cons (pe_tup (pa_cons (pe_bltn (v := .ty "list") (by rfl) T.b_list (by decide +kernel) rfl) (pa_cons (pe_bltn (v := .ty "tuple") (by rfl) T.b_tuple (by decide +kernel) rfl) pa_nil))) pa_nil))))) (pw_or1 (pt_not (pt_chain op_le op_le (pv 2) (pe_callB call_len_seq (by rfl) T.b_len (by decide +kernel) (pa_cons (pv 1) pa_nil)) (pv 3)))))) (pss_one (ps_raise rfl (takes_of rfl rfl rfl rfl) (pmk_oex O_BadEnd.c O_BadEnd.iC O_BadEnd.tI O_BadEnd.ok (hr.mono (by decide)) O_BadEnd.bd .nil pass0 rfl O_BadEnd.mg (pa_cons (pv 0) (pa_cons pe_non pa_nil))))) pss_nil)
  (pss_one (ps_for (passes_of rfl) rfl (pi_enum (by rfl) T.b_enumerate (pa_cons (pv 1) pa_nil)) (pg_tup rfl (pgs_cons (pg_name (i := 5) sccheck_machine.nd rfl (Or.inl rfl)) (pgs_cons (pg_name (i := 6) sccheck_machine.nd rfl (Or.inl rfl)) pgs_nil))) (pss_one (ps_if (pt_not (pt_val (pe_call G_is_row.ok (hr.mono (by decide)) rfl G_is_row.mg G_is_row.kp G_is_row.bd .nil pass0 (pa_cons (pv 6) (pa_cons (pe_callB call_len_seq (by rfl) T.b_len (by decide +kernel) (pa_cons (pv 1) pa_nil)) (pa_cons (pv 4) pa_nil)))))) (pss_one (ps_raise rfl (takes_of rfl rfl rfl rfl) (pmk_oex O_BadEnd.c O_BadEnd.iC O_BadEnd.tI O_BadEnd.ok (hr.mono (by decide)) O_BadEnd.bd .nil pass0 rfl O_BadEnd.mg (pa_cons (pv 0) (pa_cons (pv 5) pa_nil))))) pss_nil))))), ?_⟩
    have raised : ∀ (v2 : V) (H1 : Hp), Same H H1 → BadAt C H part v2 E → ∀ a, H1 a = none → spBadInit C [.ref a, part, v2] (upd H1 a (exo a C none)) (fun v H2 => v = .non ∧ ∃ (d : Addr) (fs : List (Str × V)), H2 a = some (exo a C (some d)) ∧ H2 d = some (exd d fs) ∧ H1 d = none ∧ E (.ref C) (some d) (upd (del H2 a) d (.xd fs))) (fun _ _ _ => False) := by
      intro v2 H1 s1 kB a ha
      refine ⟨a, part, v2, rfl, upd_same, fun H' d e1 n1 ne e2 kp => ⟨rfl, d, _, e1, e2, ?_, ?_⟩⟩
      · rw [upd_ne ne] at n1
        exact n1
      · have hd : H1 d = none := by
          rw [upd_ne ne] at n1
          exact n1
        refine kB _ d (fun b o e => ?_) (s1.free hd) upd_same
        have e' := s1 b o e
        have nb : b ≠ a := ne_of_none e' ha
        have nd : b ≠ d := ne_of_none e' hd
        rw [upd_ne nd, del_ne nb]
        exact kp b o (by rw [upd_ne nb]; exact e') nb
    refine ⟨_, rfl, (by show 2 ≤ sizeLine; decide), fun p hp => ?_⟩
    generalize eh : upd H p _ = H1
    have s1 : Same H H1 := by rw [← eh]; exact Sb.Same.upd hp
    have ep : H1 p = some (.tup [.ty "list", .ty "tuple"]) := by rw [← eh]; exact upd_same
    have hl1 := s1 _ _ hl
    refine ⟨_, p, _, _, _, true, rfl, ep, pair_classes, .base (.lst hl1), kit_list, true, rfl, iteF ?_⟩
    refine ⟨_, rfl, _, rfl, l, _, rfl, .inl (SqL.of hl1), _, _, rfl, rfl, _, rfl, ?_⟩
    have elen : (xs.length : Int) = (rows.length : Int) := by rw [hR.len]
    rw [elen]
    have refused : ¬ (few ≤ rows.length ∧ rows.length ≤ most) → ∀ a, H1 a = none → spBadInit C [.ref a, part, .non] (upd H1 a (exo a C none)) (fun v H2 => v = .non ∧ ∃ (d : Addr) (fs : List (Str × V)), H2 a = some (exo a C (some d)) ∧ H2 d = some (exd d fs) ∧ H1 d = none ∧ E (.ref C) (some d) (upd (del H2 a) d (.xd fs))) (fun _ _ _ => False) :=
      fun z => raised _ _ s1 (k1 z)
    refine ite2 (fun h1 => ?_) (fun h1 => ?_)
    · have g1 : few ≤ rows.length := by
        have : (few : Int) ≤ (rows.length : Int) := of_decide_eq_true h1
        omega
      refine ⟨_, rfl, _, _, rfl, rfl, _, rfl, ?_⟩
      by_cases g2 : rows.length ≤ most
      · have e2 : decide ((rows.length : Int) ≤ (most : Int)) = true := decide_eq_true (by omega)
        rw [e2]
        refine iteF ?_
        -- the rows, one by one
        refine ⟨_, rfl, l, xs, rfl, SqL.of hl1, for_it walk_enum (fun i σ' H' => ∃ v5 v6 : Option V, σ' = [some part, some (.ref l), some (.int (few : Int)), some (.int (most : Int)), some (.ref wa), v5, v6] ∧ Same H H' ∧ (∀ (j : Nat) (r' : Row), j < i → rows[j]? = some r' → r'.Ok rows.length ws))
          ⟨none, none, rfl, s1, fun j r' z => absurd z (Nat.not_lt_zero _)⟩ (fun i σ' H' _ ⟨_, _, _, s2, _⟩ => SqL.of (s2 _ _ hl)) ?_ ?_⟩
        · rintro i x σ' H2 H3 hi ⟨v5, v6, rfl, s2, hpre⟩ ⟨t, y, z, rfl, ht, rfl, e1, e2⟩
          cases (Option.some.inj e1).symm
          obtain ⟨r, hr, hv⟩ := hR.get i z e2
          have s3 : Same H (upd H2 t (.tup [.int (i : Int), z])) := s2.trans (Sb.Same.upd ht)
          refine ⟨t, _, rfl, SqT.of upd_same, rfl, _, _, rfl, _, _, rfl, rfl, ?_⟩
          refine ⟨_, rfl, _, rfl, l, _, rfl, .inl (SqL.of (s3 _ _ hl)), _, rfl, z, r, rows.length, wa, ws, (by rw [hR.len]; rfl), RowAt.same s3 hv, sqT_same s3 hw, fun H4 s4 => ?_⟩
          refine ⟨_, rfl, ?_⟩
          by_cases hok : r.Ok rows.length ws
          · rw [decide_eq_true hok]
            refine iteF ⟨_, _, rfl, s3.trans s4, fun j r' hj hr' => ?_⟩
            by_cases ej : j = i
            · subst ej
              rw [hr] at hr'
              cases hr'
              exact hok
            · exact hpre j r' (by omega) hr'
          · rw [decide_eq_false hok]
            refine iteT ⟨_, rfl, _, rfl, (by show 2 ≤ 1000; decide), raised _ _ (s3.trans s4) (k2 g1 g2 i r hr hok hpre)⟩
        · rintro σ' H2 ⟨v5, v6, rfl, s2, hpre⟩
          refine k3 g1 g2 (fun r hr => ?_) _ s2
          obtain ⟨j, hj⟩ := List.getElem?_of_mem hr
          have hjl : j < xs.length := by
            rw [hR.len]
            exact (List.getElem?_eq_some_iff.mp hj).1
          exact hpre j r hjl hj
      · have e2 : decide ((rows.length : Int) ≤ (most : Int)) = false := decide_eq_false (by omega)
        rw [e2]
        exact iteT ⟨_, rfl, (by show 2 ≤ 1000; decide), refused (fun z => g2 z.2)⟩
    · refine ⟨false, rfl, iteT ⟨_, rfl, (by show 2 ≤ 1000; decide), refused (fun z => h1 ?_)⟩⟩
      exact decide_eq_true (by omega)

end K09

set_option Elab.async false
set_option linter.all false
set_option maxRecDepth 100000
set_option maxHeartbeats 4000000
namespace K09
open PySem L2 Sb
variable {P : Program} {w : World} {K : PySem.W.Frag} {mg : Str → Option Value} {base : Heap}
/-- ys are the tuples (part, index, row) of xs -/
def Numbered (H : Hp) (part : V) (xs ys : List V) : Prop := ys.length = xs.length ∧ ∀ (i : Nat) (v : V), xs[i]? = some v → ∃ a, ys[i]? = some (.ref a) ∧ H a = some (.tup [part, .int (i : Int), v])
theorem Numbered.same {H H' : Hp} {part : V} {xs ys : List V} (s : Same H H') (h : Numbered H part xs ys) : Numbered H' part xs ys := ⟨h.1, fun i v e => by
  obtain ⟨a, e1, e2⟩ := h.2 i v e
  exact ⟨a, e1, s _ _ e2⟩⟩
def spNumb : Sp := fun vs H Q _ => ∃ (part : V) (l : Addr) (xs : List V), vs = [part, .ref l] ∧ H l = some (.lst xs) ∧ xs.length ≤ 1000 ∧
  ∀ (H' : Hp) (p : Addr) (ys : List V), Same H H' → H p = none → H' p = some (.lst ys) → Numbered H' part xs ys → Q (.ref p) H'
theorem ok_numb {f : Addr} {fd : FuncData} (F : Fun K "numbered_rows" "numbered_rows" snumbered_rows f fd) (T : Txt K mg) : FnOk P w K mg base CX0 1 f fd ["part", "machine"] spNumb := by
  refine F.ok scnumbered_rows (fun vs H Q E h => ?_) (fun cdv A outer s H vs Q E hr h => ?_)
  · obtain ⟨part, l, xs, rfl, _⟩ := h
    rfl
  · obtain ⟨part, l, xs, rfl, hl, hn, k⟩ := h
    refine ⟨_, (pss_one (ps_ret (pe_lc (own := [("index", 2), ("row", 3)]) (g := (gTup K 2 (gCons (gName 2) (gCons (gName 3) gNil)))) (tt := tYes) rfl scnumbered_rows.nd (pi_enum (by rfl) T.b_enumerate (pa_cons (pv 1) pa_nil)) (blkOk_by (N := ["part", "machine", "index", "row"]) (own := [("index", 2), ("row", 3)]) (sc := defScope snumbered_rows) (by decide +kernel)) (fun _ _ _ _ _ => (pg_tup rfl (pgs_cons (pg_name (i := 2) scnumbered_rows.nd rfl (Or.inl rfl)) (pgs_cons (pg_name (i := 3) scnumbered_rows.nd rfl (Or.inl rfl)) pgs_nil)))) (fun _ _ _ _ _ => pts_nil) (fun _ _ _ _ _ => (pe_tup (pa_cons (pv 0) (pa_cons (pv 2) (pa_cons (pv 3) pa_nil)))))))), ?_⟩
    refine ⟨_, rfl, l, xs, rfl, SqL.of hl, fun D hD => lc_it walk_enum (fun i H' => ∃ ys : List V, Same H H' ∧ H' D = some (.lst ys) ∧ Numbered H' part (xs.take i) ys)
      ⟨[], Sb.Same.upd hD, upd_same, rfl, fun i v e => by simp at e⟩ (fun i H' _ ⟨_, s2, _⟩ => SqL.of (s2 _ _ hl)) ?_ ?_⟩
    · rintro i x H2 H3 hi ⟨ys, s2, hD2, hN⟩ ⟨t, y, z, rfl, ht, rfl, e1, e2⟩
      cases (Option.some.inj e1).symm
      have s3 : Same H (upd H2 t (.tup [.int (i : Int), z])) := s2.trans (Sb.Same.upd ht)
      have nt : D ≠ t := ne_of_none hD2 ht
      refine ⟨t, _, rfl, SqT.of upd_same, rfl, _, _, rfl, _, _, rfl, rfl, rfl, ?_⟩
      refine ⟨_, rfl, _, rfl, _, rfl, (by show 3 ≤ sizeLine; decide), fun q hq => ?_⟩
      have nq : D ≠ q := ne_of_none (by rw [upd_ne nt]; exact hD2) hq
      generalize eh : upd (upd H2 t _) q _ = H4
      have s4 : Same H2 H4 := by rw [← eh]; exact (Sb.Same.upd ht).trans (Sb.Same.upd hq)
      have q4 : H4 q = some (.tup [part, .int (i : Int), z]) := by rw [← eh]; exact upd_same
      have qD : H D = none := hD
      have hq2 : H2 q = none := (Sb.Same.upd ht).free hq
      refine ⟨ys, s4 _ _ hD2, ?_, ys ++ [.ref q], fun b o e => ?_, upd_same, ?_⟩
      · have : ys.length = i := by
          rw [hN.1, List.length_take]
          omega
        exact Nat.lt_of_le_of_lt (by omega : ys.length ≤ 1000) (by decide)
      · rw [upd_ne (ne_of_none e qD)]
        exact s4 _ _ (s2 _ _ e)
      · have el : (xs.take i).length = i := by
          rw [List.length_take]
          omega
        have et : xs.take (i + 1) = xs.take i ++ [z] := by
          rw [List.take_add_one]
          have : xs[i]? = some z := e2
          rw [this]
          rfl
        rw [et]
        refine ⟨by simp [hN.1], fun j v e => ?_⟩
        rcases Nat.lt_or_ge j i with hj | hj
        · rw [List.getElem?_append_left (by omega)] at e
          obtain ⟨a, ea, ha⟩ := hN.2 j v e
          refine ⟨a, by rw [List.getElem?_append_left (by rw [hN.1]; omega)]; exact ea, ?_⟩
          rw [upd_ne (ne_of (s4 _ _ ha) (s4 _ _ hD2) (by intro z; cases z))]
          exact s4 _ _ ha
        · have ej : j = i := by
            have := (List.getElem?_eq_some_iff.mp e).1
            simp at this
            omega
          subst ej
          rw [List.getElem?_append_right (by omega), el, Nat.sub_self] at e
          cases Option.some.inj e
          refine ⟨q, ?_, ?_⟩
          · rw [List.getElem?_append_right (by rw [hN.1]; omega), hN.1, el, Nat.sub_self]
            rfl
          · rw [upd_ne (Ne.symm nq)]
            exact q4
    · rintro H2 ⟨ys, s2, hD2, hN⟩
      rw [List.take_length] at hN
      exact k H2 D ys s2 hD hD2 hN

end K09

set_option Elab.async false
set_option linter.all false
set_option maxRecDepth 100000
set_option maxHeartbeats 4000000
namespace K09
open PySem L2 Sb
variable {P : Program} {w : World} {K : PySem.W.Frag} {mg : Str → Option Value} {base : Heap}
/-- what the top has made: the class of ends at D, the words of both machines -/
structure TxtE (K : PySem.W.Frag) (mg : Str → Option Value) (D hA sA : Addr) : Prop extends Txt K mg where
  m_End : mg "End" = some (.ref D)
  m_HEARER_WORDS : mg "HEARER_WORDS" = some (.ref hA)
  m_SENDER_WORDS : mg "SENDER_WORDS" = some (.ref sA)
  hW : ∀ H, SqT K H hA (hearerWords.map V.str)
  sW : ∀ H, SqT K H sA (senderWords.map V.str)
  clD : Cls K D
  n1 : NoAttr K D "hearer_rows"
  n2 : NoAttr K D "sender_rows"
  n3 : NoAttr K D "rows"
  most : ∃ mc u, ClX.CRead K D mc ∧ ClX.CVal K D mc "MOST" (.int 100) u
/-- the attributes of an end -/
def endF (t1 t2 t3 : Addr) : List (Str × V) := putF "rows" (.ref t3) (putF "sender_rows" (.ref t2) (putF "hearer_rows" (.ref t1) []))
/-- at e: the end of these machines -/
def EndAt (D : Addr) (H : Hp) (e : Addr) (hs ss : List Row) : Prop := ∃ (dx t1 t2 t3 : Addr) (xs ys zs us : List V), H e = some (.ins D dx (endF t1 t2 t3)) ∧ H t1 = some (.tup xs) ∧ RowsV H xs hs ∧ H t2 = some (.tup ys) ∧ RowsV H ys ss ∧
  H t3 = some (.tup (zs ++ us)) ∧ Numbered H (.str "hearer") xs zs ∧ Numbered H (.str "sender") ys us
/-- End.__init__ of two lists of rows -/
def spEnd (C D : Addr) : Sp := fun vs H Q E => ∃ (e h1 h2 dx : Addr) (xs ys : List V) (hs ss : List Row), vs = [.ref e, .ref h1, .ref h2] ∧ H e = some (.ins D dx []) ∧ H h1 = some (.lst xs) ∧ RowsV H xs hs ∧ H h2 = some (.lst ys) ∧ RowsV H ys ss ∧
  (∀ p v, endFault hs ss = some (p, v) → BadAt C H p v E) ∧
  (endFault hs ss = none → ∀ H' : Hp, EndAt D H' e hs ss → (∀ b o, H b = some o → b ≠ e → H' b = some o) → Q .non H')
theorem flat_pls : ∀ ps : List Pl, (ps.map Pl.v).all flatV = true
  | [] => rfl
  | p :: r => by
    rw [List.map_cons, List.all_cons, flat_pls r]
    cases p <;> rfl
theorem inV_pl {z : Str} : ∀ ps : List Pl, inV (.str z) (ps.map Pl.v) = decide (Pl.word z ∈ ps)
  | [] => by simp [inV]
  | p :: r => by
    have ih := inV_pl (z := z) r
    unfold inV at ih ⊢
    rw [List.map_cons, List.any_cons, ih]
    cases p with
    | num n =>
      show (false || decide (Pl.word z ∈ r)) = decide (Pl.word z ∈ Pl.num n :: r)
      simp
    | word y =>
      show ((y == z) || decide (Pl.word z ∈ r)) = decide (Pl.word z ∈ Pl.word y :: r)
      by_cases h : y = z
      · subst h
        simp
      · have h1 : (y == z) = false := by simpa using h
        have h2 : ¬ z = y := fun e => h e.symm
        rw [h1, Bool.false_or]
        simp [h2]
theorem ok_end {f fC fR fN C D hA sA fI : Addr} {fd fdC fdR fdN fdI : FuncData} (F : Fun K "__init__" "End.__init__" sEnd_init f fd) (T : TxtE K mg D hA sA)
    (G_check_machine : Fx P w K mg base (L2.CX P w) 4 "check_machine" fC fdC ["part", "machine", "fewest", "most", "words"] (spCheck K C)) (G_reached : Fx P w K mg base CX0 2 "reached" fR fdR ["rows", "begin"] (spReach K))
    (G_numbered_rows : Fx P w K mg base CX0 1 "numbered_rows" fN fdN ["part", "machine"] spNumb) (O_BadEnd : Ox P w K mg base 1 "BadEnd" C fI fdI ["self", "part", "row"] (spBadInit C)) :
    FnOk P w K mg base (L2.CX P w) 5 f fd ["self", "hearer", "sender"] (spEnd C D) := by
  refine F.okX scEnd_init (fun vs H Q E h => ?_) (fun cdv A outer s H vs Q E hr h => ?_)
  · obtain ⟨e, h1, h2, dx, xs, ys, hs, ss, rfl, _⟩ := h
    rfl
  · obtain ⟨e, h1, h2, dx, xs, ys, hs, ss, rfl, he, hl1, hR1, hl2, hR2, kB, kQ⟩ := h
    obtain ⟨mc, u, cr, cv⟩ := T.most
    refine ⟨_, (pss_cons (ps_expr (pe_call G_check_machine.ok (hr.mono (by decide)) rfl G_check_machine.mg G_check_machine.kp G_check_machine.bd .nil (passes_call (W := fun cls d _ H => E cls d H) (takes_of rfl rfl rfl rfl) (fun _ _ _ _ h => h)) (pa_cons pe_str (pa_cons (pv 1) (pa_cons pe_int (pa_cons (ClX.pe_cval (pe_glob (v := .ref _) (by rfl) T.m_End rfl)) (pa_cons (pe_glob (v := .ref _) (by rfl) T.m_HEARER_WORDS rfl) pa_nil)))))))
  (pss_cons (ps_expr (pe_call G_check_machine.ok (hr.mono (by decide)) rfl G_check_machine.mg G_check_machine.kp G_check_machine.bd .nil (passes_call (W := fun cls d _ H => E cls d H) (takes_of rfl rfl rfl rfl) (fun _ _ _ _ h => h)) (pa_cons pe_str (pa_cons (pv 2) (pa_cons pe_int (pa_cons (ClX.pe_cval (pe_glob (v := .ref _) (by rfl) T.m_End rfl)) (pa_cons (pe_glob (v := .ref _) (by rfl) T.m_SENDER_WORDS rfl) pa_nil)))))))
  (pss_cons (ps_if (pt_cmpR op_in_seq pe_str (pe_call G_reached.ok (hr.mono (by decide)) rfl G_reached.mg G_reached.kp G_reached.bd .nil pass0 (pa_cons (pv 1) (pa_cons pe_int pa_nil))) (by rfl)) (pss_one (ps_raise rfl (takes_of rfl rfl rfl rfl) (pmk_oex O_BadEnd.c O_BadEnd.iC O_BadEnd.tI O_BadEnd.ok (hr.mono (by decide)) O_BadEnd.bd .nil pass0 rfl O_BadEnd.mg (pa_cons pe_str (pa_cons pe_non pa_nil))))) pss_nil)
  (pss_cons (ps_fld (pv 0) (pe_callTy call_tuple_of (by rfl) T.b_tuple (by decide +kernel) (pa_cons (pv 1) pa_nil)) rfl)
  (pss_cons (ps_fld (pv 0) (pe_callTy call_tuple_of (by rfl) T.b_tuple (by decide +kernel) (pa_cons (pv 2) pa_nil)) rfl)
  (pss_one (ps_fld (pv 0) (pe_callTy call_tuple_of (by rfl) T.b_tuple (by decide +kernel) (pa_cons (pe_op op_cat (pe_call G_numbered_rows.ok (hr.mono (by decide)) rfl G_numbered_rows.mg G_numbered_rows.kp G_numbered_rows.bd .nil pass0 (pa_cons pe_str (pa_cons (pv 1) pa_nil))) (pe_call G_numbered_rows.ok (hr.mono (by decide)) rfl G_numbered_rows.mg G_numbered_rows.kp G_numbered_rows.bd .nil pass0 (pa_cons pe_str (pa_cons (pv 2) pa_nil)))) pa_nil)) rfl))))))), ?_⟩
    -- the hearer's machine
    refine ⟨_, rfl, D, mc, _, u, rfl, cr, cv, .str "hearer", h1, 2, 100, hA, xs, hs, hearerWords, rfl, hl1, hR1, T.hW H, fun z => kB _ _ ?_, fun g1 g2 i r er hb hp => kB _ _ ?_, fun g1 g2 hok H1 s1 => ?_⟩
    · unfold endFault
      rw [mf_size z]
    · unfold endFault
      rw [mf_row g1 g2 er hb hp]
    have m1 : machineFault 2 100 hearerWords hs = none := mf_ok g1 g2 hok
    have hR1' := hR1.same s1
    have hR2' := hR2.same s1
    -- the sender's
    refine ⟨_, rfl, D, mc, _, u, rfl, cr, cv, .str "sender", h2, 1, 100, sA, ys, ss, senderWords, rfl, s1 _ _ hl2, hR2', T.sW H1, fun z => (kB _ _ ?_).same s1, fun q1 q2 i r er hb hp => (kB _ _ ?_).same s1, fun q1 q2 hok2 H2 s2 => ?_⟩
    · unfold endFault
      rw [m1, mf_size z]
    · unfold endFault
      rw [m1, mf_row q1 q2 er hb hp]
    have m2 : machineFault 1 100 senderWords ss = none := mf_ok q1 q2 hok2
    have s12 := s1.trans s2
    -- where the body's row leads
    refine ⟨_, rfl, h1, 1, xs, hs, hearerWords, rfl, .inl (SqL.of (s12 _ _ hl1)), hR1.same s12, by omega, by omega, hok, fun H3 p ps s3 hp ep nd hin => ?_⟩
    have s13 := s12.trans s3
    refine ⟨p, _, rfl, .inl (SqL.of ep), rfl, flat_pls ps, _, rfl, ?_⟩
    show if inV (.str "taken") (ps.map Pl.v) = true then _ else _
    rw [inV_pl]
    refine ite2 (fun hc => ?_) (fun hc => ?_)
    · have ht : Reach hs 1 (.word "taken") := (hin _).mp (of_decide_eq_true hc)
      refine ⟨by show 2 ≤ 1000; decide, fun a ha => ?_⟩
      have kb : BadAt C H (.str "body") .non E := kB _ _ (by
        unfold endFault
        rw [m1, m2, if_pos ht])
      refine ⟨a, _, _, rfl, upd_same, fun H' d e1 n1 ne e2 kp => ⟨rfl, d, _, e1, e2, ?_, ?_⟩⟩
      · rw [upd_ne ne] at n1
        exact n1
      · have hd : H3 d = none := by
          rw [upd_ne ne] at n1
          exact n1
        refine kb _ d (fun b o eo => ?_) (s13.free hd) upd_same
        have e' := s13 b o eo
        have nb : b ≠ a := ne_of_none e' ha
        have nd : b ≠ d := ne_of_none e' hd
        rw [upd_ne nd, del_ne nb]
        exact kp b o (by rw [upd_ne nb]; exact e') nb
    · have ht : ¬ Reach hs 1 (.word "taken") := fun z => hc (decide_eq_true ((hin _).mpr z))
      have ef : endFault hs ss = none := by
        unfold endFault
        rw [m1, m2, if_neg ht]
      have he3 : H3 e = some (.ins D dx []) := s13 _ _ he
      have nh1 : h1 ≠ e := ne_of hl1 he (by intro z; cases z)
      have nh2 : h2 ≠ e := ne_of hl2 he (by intro z; cases z)
      have hn1 : xs.length ≤ 100 := by
        rw [hR1.len]
        exact g2
      have hn2 : ys.length ≤ 100 := by
        rw [hR2.len]
        exact q2
      -- self.hearer_rows
      refine ⟨_, rfl, h1, _, rfl, .inl ⟨SqL.of (s13 _ _ hl1), fun t1 ht1 => ?_⟩⟩
      refine ⟨_, rfl, e, D, dx, _, rfl, by rw [upd_ne (ne_of_none he3 ht1)]; exact he3, T.clD, T.n1, (by show 0 < 1000; decide), ?_⟩
      generalize eh4 : upd (upd H3 t1 _) e _ = H4
      have he4 : H4 e = some (.ins D dx (putF "hearer_rows" (.ref t1) [])) := by rw [← eh4]; exact upd_same
      have b4 : But e H3 H4 := by rw [← eh4]; exact (But.same (Sb.Same.upd ht1)).trans But.upd
      have nt1 : t1 ≠ e := Ne.symm (ne_of_none he3 ht1)
      have et1 : H4 t1 = some (.tup xs) := by rw [← eh4, upd_ne nt1]; exact upd_same
      have c4 : But e H H4 := (But.same s13).trans b4
      -- self.sender_rows
      refine ⟨_, rfl, h2, _, rfl, .inl ⟨SqL.of (c4 _ _ hl2 nh2), fun t2 ht2 => ?_⟩⟩
      refine ⟨_, rfl, e, D, dx, _, rfl, by rw [upd_ne (ne_of_none he4 ht2)]; exact he4, T.clD, T.n2, (by show 1 < 1000; decide), ?_⟩
      generalize eh5 : upd (upd H4 t2 _) e _ = H5
      have he5 : H5 e = some (.ins D dx (putF "sender_rows" (.ref t2) (putF "hearer_rows" (.ref t1) []))) := by rw [← eh5]; exact upd_same
      have b5 : But e H4 H5 := by rw [← eh5]; exact (But.same (Sb.Same.upd ht2)).trans But.upd
      have nt2 : t2 ≠ e := Ne.symm (ne_of_none he4 ht2)
      have et2 : H5 t2 = some (.tup ys) := by rw [← eh5, upd_ne nt2]; exact upd_same
      have c5 : But e H H5 := c4.trans b5
      -- self.rows
      refine ⟨_, rfl, .str "hearer", h1, xs, rfl, c5 _ _ hl1 nh1, by omega, fun H6 r1 zs s6 hr1 er1 N1 => ?_⟩
      refine ⟨_, rfl, .str "sender", h2, ys, rfl, s6 _ _ (c5 _ _ hl2 nh2), by omega, fun H7 r2 us s7 hr2 er2 N2 => ?_⟩
      have hz : zs.length ≤ 100 := by rw [N1.1]; exact hn1
      have hu : us.length ≤ 100 := by rw [N2.1]; exact hn2
      refine ⟨r1, r2, zs, us, rfl, rfl, s7 _ _ er1, er2, Nat.le_trans (by omega : zs.length + us.length ≤ 200) (by decide), fun r3 hr3 => ?_⟩
      generalize eh8 : upd H7 r3 _ = H8
      have s8 : Same H7 H8 := by rw [← eh8]; exact Sb.Same.upd hr3
      have er3 : H8 r3 = some (.lst (zs ++ us)) := by rw [← eh8]; exact upd_same
      have s58 : Same H5 H8 := (s6.trans s7).trans s8
      have he8 : H8 e = some _ := s58 _ _ he5
      refine ⟨r3, _, rfl, .inl ⟨SqL.of er3, fun t3 ht3 => ?_⟩⟩
      refine ⟨_, rfl, e, D, dx, _, rfl, by rw [upd_ne (ne_of_none he8 ht3)]; exact he8, T.clD, T.n3, (by show 2 < 1000; decide), ?_⟩
      generalize eh9 : upd (upd H8 t3 _) e _ = H9
      have he9 : H9 e = some (.ins D dx (endF t1 t2 t3)) := by rw [← eh9]; exact upd_same
      have b9 : But e H8 H9 := by rw [← eh9]; exact (But.same (Sb.Same.upd ht3)).trans But.upd
      have nt3 : t3 ≠ e := Ne.symm (ne_of_none he8 ht3)
      have et3 : H9 t3 = some (.tup (zs ++ us)) := by rw [← eh9, upd_ne nt3]; exact upd_same
      have c9 : But e H H9 := (c5.trans (But.same s58)).trans b9
      have b59 : But e H5 H9 := (But.same s58).trans b9
      have noE : ∀ {H' : Hp} {fs : List (Str × V)}, H' e = some (.ins D dx fs) → ∀ zs, H' e ≠ some (.tup zs) := fun h zs z => by
        rw [h] at z
        cases Option.some.inj z
      have keepN : ∀ {H' : Hp} {part : V} {as bs : List V} {fs : List (Str × V)}, H' e = some (.ins D dx fs) → But e H' H9 → Numbered H' part as bs → Numbered H9 part as bs := fun hE b N => ⟨N.1, fun i v z => by
        obtain ⟨a, e1, e2⟩ := N.2 i v z
        exact ⟨a, e1, b _ _ e2 (ne_of e2 hE (by intro z; cases z))⟩⟩
      refine kQ ef H9 ⟨dx, t1, t2, t3, xs, ys, zs, us, he9, b59 _ _ (b5 _ _ et1 nt1) nt1, hR1.but c9 (noE he), b59 _ _ et2 nt2, hR2.but c9 (noE he), et3, ?_, ?_⟩ c9
      · exact keepN ((s7.trans s8) _ _ (s6 _ _ he5)) ((But.refl).trans b9 |> fun _ => b9) (N1.same (s7.trans s8))
      · exact keepN (s8 _ _ (s7 _ _ (s6 _ _ he5))) b9 (N2.same s8)

end K09

set_option Elab.async false
set_option linter.all false
set_option maxRecDepth 100000
set_option maxHeartbeats 4000000
namespace K09
open PySem L2 Sb
variable {P : Program} {w : World} {K : PySem.W.Frag} {mg : Str → Option Value} {base : Heap}
/-- place(bag, many, words): what follows in a row -/
def spPlaceW : Sp := fun vs H Q _ => ∃ (p wa : Addr) (n many : Nat) (w0 w1 : Str), vs = [.ref p, .int many, .ref wa] ∧ H wa = some (.lst [.str w0, .str w1]) ∧ wa ≠ p ∧ Bag H p n ∧ n < 1000000 ∧ 0 < many ∧ many ≤ 1000 ∧
  ∀ (H' : Hp) (x : Pl), x.Ok many [w0, w1] → Bag H' p (n + 1) → But p H H' → Q x.v H'
theorem ok_placew {f fT : Addr} {fd fdT : FuncData} (F : Fun K "_law_place" "_law_place" sL_place f fd) (T : Txt K mg) (G__law_take : Fx P w K mg base CX0 1 "_law_take" fT fdT ["_law_bag_here", "_law_many"] spTake) :
    FnOk P w K mg base CX0 2 f fd ["_law_bag_here", "_law_many", "_law_words"] spPlaceW := by
  refine F.ok scL_place (fun vs H Q E h => ?_) (fun cdv A outer s H vs Q E hr h => ?_)
  · obtain ⟨p, wa, n, m, w0, w1, rfl, _⟩ := h
    rfl
  · obtain ⟨p, wa, n, m, w0, w1, rfl, hw, nwp, hB, hn, m0, m1, k⟩ := h
    refine ⟨_, (pss_cons (ps_set (i := 3) scL_place.nd rfl (Or.inl rfl) (pe_call G__law_take.ok (hr.mono (by decide)) rfl G__law_take.mg G__law_take.kp G__law_take.bd .nil pass0 (pa_cons (pv 0) (pa_cons (pe_op op_add (pv 1) pe_int) pa_nil))))
  (pss_one (ps_ret (pe_ifExp (pt_cmpR op_lt (pv 3) (pv 1) (nomark _)) (pv 3) (pe_ix ix_list (pv 2) (pe_op op_mod (pe_callTy call_int1 (by rfl) T.b_int (by decide +kernel) (pa_cons (pv 3) pa_nil)) pe_int) (fun _ _ => rfl)))))), ?_⟩
    refine ⟨_, rfl, _, rfl, _, _, rfl, rfl, p, n, _, rfl, hB, by omega, by omega, by omega, fun H1 d d0 d1 hB1 s1 => ?_⟩
    refine ⟨_, rfl, _, rfl, _, _, rfl, rfl, _, rfl, ?_⟩
    refine ite2 (fun hc => ?_) (fun hc => ?_)
    · have hd : d < (m : Int) := of_decide_eq_true hc
      obtain ⟨j, rfl⟩ : ∃ j : Nat, d = (j : Int) := ⟨d.toNat, by omega⟩
      exact ⟨_, rfl, k H1 (.num j) (by show j < m; omega) hB1 s1⟩
    · have hw1 := s1 _ _ hw nwp
      have e2 : d % 2 = 0 ∨ d % 2 = 1 := by omega
      refine ⟨_, rfl, _, rfl, .inl ⟨_, rfl, _, _, rfl, rfl, (by show (0 : Int) < 2; decide), ?_⟩⟩
      rcases e2 with e | e
      · exact ⟨wa, _, _, _, rfl, rfl, SqL.of hw1, by rw [e]; exact atI_nat (j := 0) rfl, k H1 (.word w0) (by show w0 ∈ [w0, w1]; simp) hB1 s1⟩
      · exact ⟨wa, _, _, _, rfl, rfl, SqL.of hw1, by rw [e]; exact atI_nat (j := 1) rfl, k H1 (.word w1) (by show w1 ∈ [w0, w1]; simp) hB1 s1⟩

end K09

set_option Elab.async false
set_option linter.all false
set_option maxRecDepth 100000
set_option maxHeartbeats 4000000
namespace K09
open PySem L2 Sb
variable {P : Program} {w : World} {K : PySem.W.Frag} {mg : Str → Option Value} {base : Heap}
theorem noTupL {H : Hp} {a : Addr} {xs : List V} (h : H a = some (.lst xs)) (zs : List V) : H a ≠ some (.tup zs) := fun z => by
  rw [h] at z
  cases Option.some.inj z
/-- rows(bag, many, words): a machine -/
def spRows : Sp := fun vs H Q _ => ∃ (p wa : Addr) (n many : Nat) (w0 w1 : Str), vs = [.ref p, .int many, .ref wa] ∧ H wa = some (.lst [.str w0, .str w1]) ∧ wa ≠ p ∧ Bag H p n ∧ n + 3 * many ≤ 1000000 ∧ 0 < many ∧ many ≤ 1000 ∧
  ∀ (H' : Hp) (q : Addr) (xs : List V) (rs : List Row), Bag H' p (n + 3 * many) → But p H H' → H q = none → H' q = some (.lst xs) → RowsV H' xs rs → rs.length = many → (∀ r, r ∈ rs → r.Ok many [w0, w1]) → Q (.ref q) H'
theorem ok_rows {f fT fP : Addr} {fd fdT fdP : FuncData} (F : Fun K "_law_rows" "_law_rows" sL_rows f fd) (T : Txt K mg) (G__law_take : Fx P w K mg base CX0 1 "_law_take" fT fdT ["_law_bag_here", "_law_many"] spTake)
    (G__law_place : Fx P w K mg base CX0 2 "_law_place" fP fdP ["_law_bag_here", "_law_many", "_law_words"] spPlaceW) : FnOk P w K mg base CX0 3 f fd ["_law_bag_here", "_law_many", "_law_words"] spRows := by
  refine F.ok scL_rows (fun vs H Q E h => ?_) (fun cdv A outer s H vs Q E hr h => ?_)
  · obtain ⟨p, wa, n, m, w0, w1, rfl, _⟩ := h
    rfl
  · obtain ⟨p, wa, n, m, w0, w1, rfl, hw, nwp, hB, hn, m0, m1, k⟩ := h
    refine ⟨_, (pss_one (ps_ret (pe_lc (own := [("_law_k", 3)]) (g := (gName 3)) (tt := tYes) rfl scL_rows.nd (pi_range1 (by rfl) T.b_range (pa_cons (pv 1) pa_nil)) (blkOk_by (N := ["_law_bag_here", "_law_many", "_law_words", "_law_k"]) (own := [("_law_k", 3)]) (sc := defScope sL_rows) (by decide +kernel)) (fun _ _ _ _ _ => (pg_name (i := 3) scL_rows.nd rfl (Or.inl rfl))) (fun _ _ _ _ _ => pts_nil) (fun _ _ _ _ _ => (pe_tup (pa_cons (pe_call G__law_take.ok (hr.mono (by decide)) rfl G__law_take.mg G__law_take.kp G__law_take.bd .nil pass0 (pa_cons (pv 0) (pa_cons pe_int pa_nil))) (pa_cons (pe_call G__law_place.ok (hr.mono (by decide)) rfl G__law_place.mg G__law_place.kp G__law_place.bd .nil pass0 (pa_cons (pv 0) (pa_cons (pv 1) (pa_cons (pv 2) pa_nil)))) (pa_cons (pe_call G__law_place.ok (hr.mono (by decide)) rfl G__law_place.mg G__law_place.kp G__law_place.bd .nil pass0 (pa_cons (pv 0) (pa_cons (pv 1) (pa_cons (pv 2) pa_nil)))) pa_nil)))))))), ?_⟩
    refine ⟨_, rfl, _, rfl, by omega, by omega, fun D hD => lc_range (lo := 0) (n := ((m : Int)).toNat) (fun j H' => ∃ (vs : List V) (rs : List Row), But p H H' ∧ Bag H' p (n + 3 * j) ∧ H' D = some (.lst vs) ∧ RowsV H' vs rs ∧ rs.length = j ∧ (∀ r, r ∈ rs → r.Ok m [w0, w1]))
      ⟨[], [], But.same (Sb.Same.upd hD), hB.same (Sb.Same.upd hD), upd_same, .nil, rfl, fun r hr => by simp at hr⟩ ?_ ?_⟩
    · have npD : D ≠ p := by
        obtain ⟨g, b, c, e, _⟩ := hB
        exact Ne.symm (ne_of_none e hD)
      rintro j H6 hj ⟨vs, rs, s6, hB6, eD6, hR6, hrl, hrok⟩
      have hw6 := s6 _ _ hw nwp
      refine ⟨rfl, ?_⟩
      refine ⟨_, rfl, p, _, 2, rfl, hB6, by omega, by decide, by decide, fun H7 d7 d70 d71 hB7 b7 => ?_⟩
      obtain ⟨put, rfl⟩ : ∃ put : Nat, d7 = (put : Int) := ⟨d7.toNat, by omega⟩
      have hput : put < 2 := by omega
      have hw7 := b7 _ _ hw6 nwp
      refine ⟨_, rfl, _, rfl, _, rfl, p, wa, _, m, w0, w1, rfl, hw7, nwp, hB7, by omega, by omega, by omega, fun H8 xa hxa hB8 b8 => ?_⟩
      refine ⟨_, rfl, _, rfl, _, rfl, p, wa, _, m, w0, w1, rfl, b8 _ _ hw7 nwp, nwp, hB8, by omega, by omega, by omega, fun H9 xb hxb hB9 b9 => ?_⟩
      refine ⟨(by show 3 ≤ sizeLine; decide), fun q hq => ?_⟩
      have b69 : But p H6 H9 := (b7.trans b8).trans b9
      have eD9 : H9 D = some (.lst vs) := b69 _ _ eD6 npD
      have sq : Same H9 (upd H9 q (.tup (Row.vs ⟨put, xa, xb⟩))) := Sb.Same.upd hq
      have hvl : vs.length = j := by rw [hR6.len, hrl]
      refine ⟨vs, sq _ _ eD9, Nat.lt_of_le_of_lt (by omega : vs.length ≤ 1000) (by decide), vs ++ [.ref q], rs ++ [⟨put, xa, xb⟩], fun c o ho hc => ?_, ?_, upd_same, ?_, by simp [hrl], fun r hr' => ?_⟩
      · rw [upd_ne (ne_of_none ho hD)]
        exact sq _ _ (b69 _ _ (s6 _ _ ho hc) hc)
      · obtain ⟨g, b, c, e, r1, r2, r3, r4, r5⟩ := hB9
        refine ⟨g, b, c, by rw [upd_ne (Ne.symm npD)]; exact sq _ _ e, r1, r2, r3, r4, by omega⟩
      · refine RowsV.but But.upd (noTupL (sq _ _ eD9)) ?_
        exact RowsV.snoc ⟨q, rfl, upd_same⟩ ((hR6.but b69 hB6.no).same sq)
      · rcases List.mem_append.mp hr' with z | z
        · exact hrok r z
        · simp at z
          subst z
          exact ⟨by show put = 0 ∨ put = 1; omega, hxa, hxb⟩
    · rintro H6 ⟨vs, rs, s6, hB6, eD6, hR6, hrl, hrok⟩
      exact k H6 D vs rs (hB6.mono (by omega)) s6 hD eD6 hR6 (by omega) hrok

end K09

set_option Elab.async false
set_option linter.all false
set_option maxRecDepth 100000
set_option maxHeartbeats 4000000
namespace K09
open PySem L2 Sb
variable {P : Program} {w : World} {K : PySem.W.Frag} {mg : Str → Option Value} {base : Heap}
/-- led(rows, first): the rows that it leads to -/
def spLed : Sp := fun vs H Q _ => ∃ (l : Addr) (b : Nat) (xs : List V) (rows : List Row) (ws : List Str), vs = [.ref l, .int b] ∧ H l = some (.lst xs) ∧ RowsV H xs rows ∧ b < rows.length ∧ rows.length ≤ 1000 ∧ (∀ r, r ∈ rows → r.Ok rows.length ws) ∧
  ∀ (H' : Hp) (q : Addr) (fs : List Nat), Same H H' → H q = none → H' q = some (.lst (natsV fs)) → fs.Nodup → (∀ i, i ∈ fs ↔ Reach rows b (.num i)) → (∀ i, i ∈ fs → i < rows.length) → Q (.ref q) H'
theorem ok_led {f : Addr} {fd : FuncData} (F : Fun K "_law_led" "_law_led" sL_led f fd) (T : Txt K mg) : FnOk P w K mg base CX0 1 f fd ["_law_rows_here", "_law_first"] spLed := by
  refine F.ok scL_led (fun vs H Q E h => ?_) (fun cdv A outer s H vs Q E hr h => ?_)
  · obtain ⟨l, b, xs, rows, ws, rfl, _⟩ := h
    rfl
  · obtain ⟨l, b, xs, rows, ws, rfl, hl, hR, hb, hsz, hok, k⟩ := h
    refine ⟨_, (pss_cons (ps_par (i := 2) (j := 3) rfl scL_led.nd rfl rfl (by decide) rfl rfl (pa_cons (pe_lst (pa_cons (pv 1) pa_nil)) (pa_cons pe_int pa_nil)) (by rfl))
  (pss_cons (ps_while PassesOwn.never (pt_cmpR op_lt (pv 3) (pe_callB call_len_seq (by rfl) T.b_len (by decide +kernel) (pa_cons (pv 2) pa_nil)) (nomark _)) (pss_cons (ps_for PassesOwn.never rfl (pi_tup (pe_slice sl_tup (pe_ix ix_list (pv 0) (pe_ix ix_list (pv 2) (pv 3) (fun _ _ => rfl)) (fun _ _ => rfl)) (po_some pe_int) po_none)) (pg_name (i := 4) scL_led.nd rfl (Or.inl rfl)) (pss_one (ps_if (PW.pt (pw_and (pt_not (pt_val (pe_callB call_isi (by rfl) T.b_isinstance (by decide +kernel) (pa_cons (pv 4) (pa_cons (pe_bltn (v := .ty "str") (by rfl) T.b_str (by decide +kernel) rfl) pa_nil))))) (pw_and1 (pt_cmpR op_notIn_seq (pv 4) (pv 2) (by rfl))))) (pss_one (ps_expr (pe_bm PySem.F.plainAttrs_list PySem.F.slot_list_append PySem.F.type_list_append mt_append (pv 2) (pa_cons (pv 4) pa_nil)))) pss_nil)))
  (pss_one (ps_set (i := 3) scL_led.nd rfl (Or.inl rfl) (pe_op op_add (pv 3) pe_int)))))
  (pss_one (ps_ret (pv 2))))), ?_⟩
    refine ⟨_, rfl, (by show 1 ≤ sizeLine; decide), fun fa hfa => ⟨_, _, rfl, ?_⟩⟩
    refine ⟨fun m σ H' => ∃ (fs : List Nat) (t : Nat) (v4 : Option V), σ = [some (.ref l), some (.int b), some (.ref fa), some (.int t), v4] ∧ Same H H' ∧ H' fa = some (.lst (natsV fs)) ∧ LInv rows b fs t ∧ t ≤ fs.length ∧ m = rows.length - t,
      ⟨_, [b], 0, none, rfl, Sb.Same.upd hfa, upd_same, LInv.begin hb, Nat.zero_le _, rfl⟩, ?_⟩
    rintro m σ H2 ⟨fs, t, v4, rfl, s2, ef, I, ht, rfl⟩
    have hfl : fs.length ≤ rows.length := nodup_len I.nd I.small
    refine ⟨_, rfl, _, rfl, fa, _, rfl, .inl (SqL.of ef), _, _, rfl, rfl, _, rfl, ?_⟩
    rw [natsV_len]
    refine ite2 (fun hc => ?_) (fun hc => ?_)
    · have htl : t < fs.length := by
        have : (t : Int) < (fs.length : Int) := of_decide_eq_true hc
        omega
      obtain ⟨i, hi⟩ : ∃ i, fs[t]? = some i := ⟨fs[t], List.getElem?_eq_getElem htl⟩
      have hif := List.mem_of_getElem? hi
      obtain ⟨r, hr⟩ : ∃ r, rows[i]? = some r := ⟨rows[i]'(I.small i hif), List.getElem?_eq_getElem (I.small i hif)⟩
      obtain ⟨v, hv, hva⟩ := hR.get' i r hr
      obtain ⟨ra, rfl, hra⟩ := RowAt.same s2 hva
      have hrok := hok r (List.mem_of_getElem? hr)
      refine ⟨fun σ' H' => ∃ m', m' < rows.length - t ∧ ∃ (fs : List Nat) (t : Nat) (v4 : Option V), σ' = [some (.ref l), some (.int b), some (.ref fa), some (.int t), v4] ∧ Same H H' ∧ H' fa = some (.lst (natsV fs)) ∧ LInv rows b fs t ∧ t ≤ fs.length ∧ m' = rows.length - t, fun _ _ z => z, ?_⟩
      refine ⟨_, rfl, _, rfl, _, rfl, fa, _, _, _, rfl, rfl, SqL.of ef, atI_nat (natsV_get hi), l, _, _, _, rfl, rfl, SqL.of (s2 _ _ hl), atI_nat hv, _, rfl, ?_⟩
      refine ⟨ra, _, rfl, SqT.of hra, (by intro z; have z1 : HT.sIx 3 0 (some 1) = 0 := z.1; revert z1; decide), fun q hq => ?_⟩
      generalize eh4 : upd H2 q _ = H4
      have t4 : Same H2 H4 := by rw [← eh4]; exact Sb.Same.upd hq
      have q4 : H4 q = some (.tup [r.a.v, r.b.v]) := by rw [← eh4]; exact upd_same
      refine ⟨q, rfl, ⟨_, SqT.of q4⟩, for_tup (K := K) (a := q) (xs := [r.a.v, r.b.v]) (fun j σ' H' => ∃ (fs' : List Nat) (v4 : Option V), σ' = [some (.ref l), some (.int b), some (.ref fa), some (.int t), v4] ∧ Same H H' ∧ H' fa = some (.lst (natsV fs')) ∧ H' q = some (.tup [r.a.v, r.b.v]) ∧
          LInv rows b fs' t ∧ fs'[t]? = some i ∧ ∀ x, x ∈ [r.a, r.b].take j → ∀ c, x = .num c → c ∈ fs')
        ⟨fs, v4, rfl, s2.trans t4, t4 _ _ ef, q4, I, hi, fun x hx => by simp at hx⟩ (fun j σ' H' _ ⟨_, _, _, _, _, z, _⟩ => SqT.of z) ?_ ?_⟩
      · rintro j y σ' H5 hy ⟨fs', v4, rfl, s5, ef5, eq5, I5, hi5, hd5⟩
        obtain ⟨x, rfl, hx, htk⟩ : ∃ x : Pl, y = x.v ∧ (x = r.a ∨ x = r.b) ∧ [r.a, r.b].take (j + 1) = [r.a, r.b].take j ++ [x] := by
          match j, hy with
          | 0, h => exact ⟨r.a, (Option.some.inj h).symm, .inl rfl, rfl⟩
          | 1, h => exact ⟨r.b, (Option.some.inj h).symm, .inr rfl, rfl⟩
          | j + 2, h => simp at h
        have hfl5 : fs'.length ≤ rows.length := nodup_len I5.nd I5.small
        cases x with
        | word z =>
          refine ⟨_, rfl, _, _, _, _, true, rfl, .ty _, .base (.str _), kit_ty (by decide +kernel), true, rfl, iteF (iteF ?_)⟩
          refine ⟨fs', _, rfl, s5, ef5, eq5, I5, hi5, fun x hx' c e => ?_⟩
          rw [htk] at hx'
          rcases List.mem_append.mp hx' with h | h
          · exact hd5 x h c e
          · simp at h
            rw [h] at e
            cases e
        | num c =>
          refine ⟨_, rfl, _, _, _, _, false, rfl, .ty _, .base (.int _), kit_ty (by decide +kernel), false, rfl, iteT ?_⟩
          refine ⟨_, rfl, _, rfl, fa, _, rfl, .inl (SqL.of ef5), rfl, flat_nats _, _, rfl, ?_⟩
          show if (!inV (.int (c : Int)) (natsV fs')) = true then _ else _
          rw [inV_nat]
          by_cases hin : c ∈ fs'
          · rw [decide_eq_true hin]
            refine iteF ⟨fs', _, rfl, s5, ef5, eq5, I5, hi5, fun x hx' c' e => ?_⟩
            rw [htk] at hx'
            rcases List.mem_append.mp hx' with h | h
            · exact hd5 x h c' e
            · simp at h
              rw [h] at e
              cases e
              exact hin
          · rw [decide_eq_false hin]
            have hcs : c < rows.length := by
              rcases hx with e | e
              · have := hrok.2.1
                rw [← e] at this
                exact this
              · have := hrok.2.2
                rw [← e] at this
                exact this
            refine iteT ⟨_, rfl, .inl ⟨rfl, _, SqL.of ef5⟩, _, rfl, fa, _, _, rfl, rfl, ef5, by rw [natsV_len]; exact Nat.lt_of_le_of_lt (by omega : fs'.length ≤ 1000) (by decide), ?_⟩
            refine ⟨fs' ++ [c], _, rfl, fun d o ho => by rw [upd_ne (ne_of_none ho hfa)]; exact s5 _ _ ho, by rw [upd_same, ← natsV_snoc]; rfl, by rw [upd_ne (ne_of eq5 ef5 (by intro z; cases z))]; exact eq5,
              I5.add (List.mem_of_getElem? hi5) ⟨r, hr, hx⟩ hin hcs (by have := (List.getElem?_eq_some_iff.mp hi5).1; omega), ?_, fun x hx' c' e => ?_⟩
            · rw [List.getElem?_append_left (List.getElem?_eq_some_iff.mp hi5).1]
              exact hi5
            · rw [htk] at hx'
              rcases List.mem_append.mp hx' with h | h
              · exact List.mem_append_left _ (hd5 x h c' e)
              · simp at h
                rw [h] at e
                cases e
                simp
      · rintro σ' H5 ⟨fs', v4, rfl, s5, ef5, eq5, I5, hi5, hd5⟩
        have htl5 := (List.getElem?_eq_some_iff.mp hi5).1
        refine ⟨_, rfl, _, _, rfl, rfl, _, ?_, fs', t + 1, _, rfl, s5, ef5, I5.next hi5 fun j hj => ?_, by omega, rfl⟩
        · omega
        · obtain ⟨r', hr', hp⟩ := hj
          rw [hr] at hr'
          cases hr'
          exact hd5 (.num j) (by rcases hp with h | h <;> simp [h]) j rfl
    · have htl : fs.length ≤ t := by
        have : ¬ (t : Int) < (fs.length : Int) := fun z => hc (decide_eq_true z)
        omega
      exact ⟨_, rfl, k H2 fa fs s2 hfa ef I.nd (fun i => I.all htl i) I.small⟩

end K09

set_option Elab.async false
set_option linter.all false
set_option maxRecDepth 100000
set_option maxHeartbeats 4000000
namespace K09
open PySem L2 Sb
variable {P : Program} {w : World} {K : PySem.W.Frag} {mg : Str → Option Value} {base : Heap}
theorem RowsV.set {H : Hp} {v : V} {r : Row} (x : RowAt H v r) : ∀ {vs : List V} {rs : List Row} (i : Nat), RowsV H vs rs → RowsV H (vs.set i v) (rs.set i r)
  | _, _, _, .nil => .nil
  | _, _, 0, .cons _ t => .cons x t
  | _, _, i + 1, .cons h t => .cons h (RowsV.set x i t)
theorem ixN_nat {n j : Nat} (h : j < n) : ixN n (j : Int) = some j := by
  unfold ixN
  simp [seqIndex?, h]
theorem same_but {H H1 H2 : Hp} {p : Addr} (s : Same H H1) (b : But p H1 H2) (hp : H p = none) : Same H H2 := fun c o h => b _ _ (s _ _ h) (ne_of_none h hp)
/-- 'lost' if x == 'taken' else x -/
theorem un_v (x : Pl) : (if decide (x.v = V.str "taken") = true then V.str "lost" else x.v) = (unTaken x).v := by
  cases x with
  | num n => rfl
  | word s =>
    rw [unTaken_word]
    by_cases h : s = "taken"
    · rw [if_pos h, h]
      rfl
    · rw [if_neg h]
      have e : decide ((Pl.word s).v = V.str "taken") = false := decide_eq_false fun z => h (V.str.inj z)
      rw [e]
      rfl
/-- hearer(bag, many): a machine of a hearer whose body's row leads to no "taken" -/
def spHearer : Sp := fun vs H Q _ => ∃ (p : Addr) (n many : Nat), vs = [.ref p, .int many] ∧ Bag H p n ∧ n + 3 * many ≤ 1000000 ∧ 2 ≤ many ∧ many ≤ 100 ∧
  ∀ (H' : Hp) (q : Addr) (xs : List V) (rs : List Row), Bag H' p (n + 3 * many) → But p H H' → H q = none → H' q = some (.lst xs) → RowsV H' xs rs → rs.length = many → HearerOk rs → Q (.ref q) H'
theorem ok_hearer {f fR fL : Addr} {fd fdR fdL : FuncData} (F : Fun K "_law_hearer" "_law_hearer" sL_hearer f fd) (T : Txt K mg) (G__law_rows : Fx P w K mg base CX0 3 "_law_rows" fR fdR ["_law_bag_here", "_law_many", "_law_words"] spRows)
    (G__law_led : Fx P w K mg base CX0 1 "_law_led" fL fdL ["_law_rows_here", "_law_first"] spLed) : FnOk P w K mg base CX0 4 f fd ["_law_bag_here", "_law_many"] spHearer := by
  refine F.ok scL_hearer (fun vs H Q E h => ?_) (fun cdv A outer s H vs Q E hr h => ?_)
  · obtain ⟨p, n, m, rfl, _⟩ := h
    rfl
  · obtain ⟨p, n, m, rfl, hB, hn, m2, m1, k⟩ := h
    refine ⟨_, (pss_cons (ps_set (i := 2) scL_hearer.nd rfl (Or.inl rfl) (pe_call G__law_rows.ok (hr.mono (by decide)) rfl G__law_rows.mg G__law_rows.kp G__law_rows.bd .nil pass0 (pa_cons (pv 0) (pa_cons (pv 1) (pa_cons (pe_lst (pa_cons pe_str (pa_cons pe_str pa_nil))) pa_nil)))))
  (pss_cons (ps_for PassesOwn.never rfl (pi_list (pe_call G__law_led.ok (hr.mono (by decide)) rfl G__law_led.mg G__law_led.kp G__law_led.bd .nil pass0 (pa_cons (pv 2) (pa_cons pe_int pa_nil)))) (pg_name (i := 3) scL_hearer.nd rfl (Or.inl rfl)) (pss_cons (ps_asg (pe_ix ix_list (pv 2) (pv 3) (fun _ _ => rfl)) (pg_tup rfl (pgs_cons (pg_name (i := 4) scL_hearer.nd rfl (Or.inl rfl)) (pgs_cons (pg_name (i := 5) scL_hearer.nd rfl (Or.inl rfl)) (pgs_cons (pg_name (i := 6) scL_hearer.nd rfl (Or.inl rfl)) pgs_nil)))))
  (pss_one (ps_asg (pe_tup (pa_cons (pv 4) (pa_cons (pe_ifExp (pt_cmpR op_eq (pv 5) pe_str (nomark _)) pe_str (pv 5)) (pa_cons (pe_ifExp (pt_cmpR op_eq (pv 6) pe_str (nomark _)) pe_str (pv 6)) pa_nil)))) (pg_sub (pv 2) (pv 3) set_list)))))
  (pss_one (ps_ret (pv 2))))), ?_⟩
    obtain ⟨g0, b0, c0, ebag, _⟩ := id hB
    refine ⟨_, rfl, _, rfl, (by show 2 ≤ sizeLine; decide), fun wa hwa => ?_⟩
    have sw : Same H (upd H wa (.lst [.str "taken", .str "lost"])) := Sb.Same.upd hwa
    refine ⟨p, wa, n, m, "taken", "lost", rfl, upd_same, Ne.symm (ne_of_none ebag hwa), hB.same sw, hn, by omega, by omega, fun H1 q xs rs hB1 b1 hq eq hR hrl hrok => ?_⟩
    have hq0 : H q = none := sw.free hq
    have c1 : But p H H1 := (But.same sw).trans b1
    have npq : q ≠ p := Ne.symm (ne_of_none ebag hq0)
    have hrok' : ∀ r, r ∈ rs → r.Ok rs.length hearerWords := by rw [hrl]; exact hrok
    refine ⟨_, rfl, q, 1, xs, rs, hearerWords, rfl, eq, hR, by omega, by omega, hrok', fun H2 fa fs s2 hfa ef nd hin hsm => ?_⟩
    have nfq : fa ≠ q := Ne.symm (ne_of_none eq hfa)
    refine ⟨fa, rfl, ⟨_, SqL.of ef⟩, for_list (K := K) (a := fa) (xs := natsV fs) (fun b σ' H' => ∃ (xs' : List V) (v3 v4 v5 v6 : Option V), σ' = [some (.ref p), some (.int m), some (.ref q), v3, v4, v5, v6] ∧ But q H2 H' ∧ H' q = some (.lst xs') ∧ RowsV H' xs' (unRows rs (fs.take b)))
      ⟨xs, none, none, none, none, rfl, But.refl, s2 _ _ eq, hR.same s2⟩ (fun b σ' H' _ ⟨_, _, _, _, _, _, z, _, _⟩ => SqL.of (z _ _ ef nfq)) ?_ ?_⟩
    · rintro b y σ' H3 hy ⟨xs', v3, v4, v5, v6, rfl, b3, eq3, hR3⟩
      obtain ⟨i, hi, rfl⟩ : ∃ i : Nat, fs[b]? = some i ∧ y = V.int (i : Int) := by
        unfold natsV at hy
        rw [List.getElem?_map] at hy
        cases e : fs[b]? with
        | none =>
          rw [e] at hy
          cases hy
        | some i =>
          rw [e] at hy
          exact ⟨i, rfl, (Option.some.inj hy).symm⟩
      have hib : i < rs.length := hsm i (List.mem_of_getElem? hi)
      have hlen : (unRows rs (fs.take b)).length = rs.length := unRows_len _ _
      obtain ⟨r, hr⟩ : ∃ r, (unRows rs (fs.take b))[i]? = some r := ⟨_, List.getElem?_eq_getElem (by rw [hlen]; exact hib)⟩
      obtain ⟨v, hv, ra, rfl, hra⟩ := hR3.get' i r hr
      have hxl : i < xs'.length := by
        rw [hR3.len, hlen]
        exact hib
      refine ⟨_, rfl, _, rfl, q, _, _, _, rfl, rfl, SqL.of eq3, atI_nat hv, ra, _, rfl, SqT.of hra, rfl, _, _, rfl, _, _, rfl, _, _, rfl, rfl, ?_⟩
      have sc : ∀ x : Pl, scal x.v (V.str "taken") = true := fun x => by cases x <;> rfl
      have un : ∀ (x : Pl) (R : VK) (H' : Hp), R (unTaken x).v H' → (if decide (x.v = V.str "taken") = true then tC (.str "lost") [] H' R else R x.v H') := fun x R H' h => by
        rw [← un_v] at h
        by_cases c : decide (x.v = V.str "taken") = true
        · rw [if_pos c] at h ⊢
          exact h
        · rw [if_neg c] at h ⊢
          exact h
      refine ⟨_, rfl, _, rfl, sc r.a, _, rfl, ?_⟩
      have h1 : ∀ {A B : Prop} {x : Pl}, (x.v = V.str "taken" → unTaken x = .word "lost" → A) → (¬ x.v = V.str "taken" → unTaken x = x → B) → if decide (x.v = V.str "taken") = true then A else B := by
        intro A B x ha hb'
        cases x with
        | num n => exact iteF (hb' (fun z => by cases z) rfl)
        | word s =>
          by_cases c : s = "taken"
          · subst c
            refine ite2 (fun _ => ha rfl rfl) (fun z => absurd (decide_eq_true rfl) z)
          · refine ite2 (fun z => absurd (V.str.inj (of_decide_eq_true z)) c) (fun _ => hb' (fun z => c (V.str.inj z)) ?_)
            rw [unTaken_word, if_neg c]
      have step : ∀ (w1 w2 : V), w1 = (unTaken r.a).v → w2 = (unTaken r.b).v → [V.int (r.put : Int), w1, w2].length ≤ sizeLine ∧ ∀ t1, H3 t1 = none → ∃ (xs'' : List V) (v3 v4 v5 v6 : Option V), [some (V.ref p), some (.int m), some (.ref q), some (.int (i : Int)), some (.int (r.put : Int)), some r.a.v, some r.b.v] = [some (.ref p), some (.int m), some (.ref q), v3, v4, v5, v6] ∧
          But q H2 (upd (upd H3 t1 (.tup [V.int (r.put : Int), w1, w2])) q (.lst (xs'.set i (.ref t1)))) ∧ (upd (upd H3 t1 (.tup [V.int (r.put : Int), w1, w2])) q (.lst (xs'.set i (.ref t1)))) q = some (.lst xs'') ∧
          RowsV (upd (upd H3 t1 (.tup [V.int (r.put : Int), w1, w2])) q (.lst (xs'.set i (.ref t1)))) xs'' (unRows rs (fs.take (b + 1))) := by
        rintro w1 w2 rfl rfl
        refine ⟨(by show 3 ≤ sizeLine; decide), fun t1 ht1 => ⟨xs'.set i (.ref t1), _, _, _, _, rfl, fun c o ho hc => ?_, upd_same, ?_⟩⟩
        · rw [upd_ne hc]
          exact Sb.Same.upd ht1 _ _ (b3 _ _ ho hc)
        · have etk : fs.take (b + 1) = fs.take b ++ [i] := by
            rw [List.take_add_one, hi]
            rfl
          rw [etk, unRows_snoc, hr]
          have s4 : Same H3 (upd H3 t1 (.tup (unRow r).vs)) := Sb.Same.upd ht1
          exact RowsV.but But.upd (noTup (s4 _ _ eq3)) (RowsV.set ⟨t1, rfl, upd_same⟩ _ (hR3.same s4))
      have hix : ∀ t1 w1 w2, H3 t1 = none → (upd H3 t1 (.tup [V.int (r.put : Int), w1, w2])) q = some (.lst xs') := fun t1 w1 w2 ht1 => by rw [upd_ne (ne_of_none eq3 ht1)]; exact eq3
      refine h1 (fun _ e1 => ?_) (fun _ e1 => ?_)
      · refine ⟨_, rfl, sc r.b, _, rfl, h1 (fun _ e2 => ?_) (fun _ e2 => ?_)⟩
        · obtain ⟨z1, z2⟩ := step (.str "lost") (.str "lost") (by rw [e1]; rfl) (by rw [e2]; rfl)
          exact ⟨z1, fun t1 ht1 => ⟨_, rfl, _, rfl, q, xs', _, _, rfl, rfl, hix _ _ _ ht1, ixN_nat hxl, z2 t1 ht1⟩⟩
        · obtain ⟨z1, z2⟩ := step (.str "lost") r.b.v (by rw [e1]; rfl) (by rw [e2])
          exact ⟨_, rfl, z1, fun t1 ht1 => ⟨_, rfl, _, rfl, q, xs', _, _, rfl, rfl, hix _ _ _ ht1, ixN_nat hxl, z2 t1 ht1⟩⟩
      · refine ⟨_, rfl, _, rfl, sc r.b, _, rfl, h1 (fun _ e2 => ?_) (fun _ e2 => ?_)⟩
        · obtain ⟨z1, z2⟩ := step r.a.v (.str "lost") (by rw [e1]) (by rw [e2]; rfl)
          exact ⟨z1, fun t1 ht1 => ⟨_, rfl, _, rfl, q, xs', _, _, rfl, rfl, hix _ _ _ ht1, ixN_nat hxl, z2 t1 ht1⟩⟩
        · obtain ⟨z1, z2⟩ := step r.a.v r.b.v (by rw [e1]) (by rw [e2])
          exact ⟨_, rfl, z1, fun t1 ht1 => ⟨_, rfl, _, rfl, q, xs', _, _, rfl, rfl, hix _ _ _ ht1, ixN_nat hxl, z2 t1 ht1⟩⟩
    · rintro σ' H3 ⟨xs', v3, v4, v5, v6, rfl, b3, eq3, hR3⟩
      rw [natsV_len, List.take_length] at hR3
      have el : (unRows rs fs).length = m := by rw [unRows_len, hrl]
      refine ⟨_, rfl, k H3 q xs' (unRows rs fs) ?_ (fun c o ho hc => ?_) hq0 eq3 hR3 el ⟨by omega, by omega, ?_, unRows_body fun i hi => (hin i).mpr hi⟩⟩
      · obtain ⟨g, bb, c, e, r⟩ := hB1
        exact ⟨g, bb, c, b3 _ _ (s2 _ _ e) (Ne.symm npq), r⟩
      · exact b3 _ _ (s2 _ _ (c1 _ _ ho hc)) (ne_of_none ho hq0)
      · rw [el]
        exact unRows_ok (by decide +kernel) hrok
/-- sender(bag, many): a machine of a sender -/
def spSender : Sp := fun vs H Q _ => ∃ (p : Addr) (n many : Nat), vs = [.ref p, .int many] ∧ Bag H p n ∧ n + 3 * many ≤ 1000000 ∧ 1 ≤ many ∧ many ≤ 100 ∧
  ∀ (H' : Hp) (q : Addr) (xs : List V) (rs : List Row), Bag H' p (n + 3 * many) → But p H H' → H q = none → H' q = some (.lst xs) → RowsV H' xs rs → rs.length = many → SenderOk rs → Q (.ref q) H'
theorem ok_sender {f fR : Addr} {fd fdR : FuncData} (F : Fun K "_law_sender" "_law_sender" sL_sender f fd) (G__law_rows : Fx P w K mg base CX0 3 "_law_rows" fR fdR ["_law_bag_here", "_law_many", "_law_words"] spRows) :
    FnOk P w K mg base CX0 4 f fd ["_law_bag_here", "_law_many"] spSender := by
  refine F.ok scL_sender (fun vs H Q E h => ?_) (fun cdv A outer s H vs Q E hr h => ?_)
  · obtain ⟨p, n, m, rfl, _⟩ := h
    rfl
  · obtain ⟨p, n, m, rfl, hB, hn, m2, m1, k⟩ := h
    refine ⟨_, (pss_one (ps_ret (pe_call G__law_rows.ok (hr.mono (by decide)) rfl G__law_rows.mg G__law_rows.kp G__law_rows.bd .nil pass0 (pa_cons (pv 0) (pa_cons (pv 1) (pa_cons (pe_lst (pa_cons pe_str (pa_cons pe_str pa_nil))) pa_nil)))))), ?_⟩
    obtain ⟨g0, b0, c0, ebag, _⟩ := id hB
    refine ⟨_, rfl, _, rfl, (by show 2 ≤ sizeLine; decide), fun wa hwa => ?_⟩
    have sw : Same H (upd H wa (.lst [.str "done", .str "again"])) := Sb.Same.upd hwa
    refine ⟨p, wa, n, m, "done", "again", rfl, upd_same, Ne.symm (ne_of_none ebag hwa), hB.same sw, hn, by omega, by omega, fun H1 q xs rs hB1 b1 hq eq hR hrl hrok => ?_⟩
    exact k H1 q xs rs hB1 ((But.same sw).trans b1) (sw.free hq) eq hR hrl ⟨by omega, by omega, by rw [hrl]; exact hrok⟩

end K09

set_option Elab.async false
set_option linter.all false
set_option maxRecDepth 100000
set_option maxHeartbeats 4000000
namespace K09
open PySem L2 Sb
variable {P : Program} {w : World} {K : PySem.W.Frag} {mg : Str → Option Value} {base : Heap}
theorem ok_hearer_get {f D : Addr} {fd : FuncData} (F : Fun K "hearer" "End.hearer" sEnd_hearer f fd) (c : Cls K D) (n : NoAttr K D "hearer_rows") : FnOk P w K mg base CX0 1 f fd ["self"] (getSp D "hearer_rows") := by
  obtain ⟨oc, od, kV, doc, pm, an, cdv, ct, osl, rfl, at_, cd_⟩ := F.ex
  exact fn_getter at_ cd_ scEnd_hearer rfl rfl c n
theorem ok_sender_get {f D : Addr} {fd : FuncData} (F : Fun K "sender" "End.sender" sEnd_sender f fd) (c : Cls K D) (n : NoAttr K D "sender_rows") : FnOk P w K mg base CX0 1 f fd ["self"] (getSp D "sender_rows") := by
  obtain ⟨oc, od, kV, doc, pm, an, cdv, ct, osl, rfl, at_, cd_⟩ := F.ex
  exact fn_getter at_ cd_ scEnd_sender rfl rfl c n

end K09

set_option Elab.async false
set_option linter.all false
set_option maxRecDepth 100000
set_option maxHeartbeats 4000000
namespace K09
open PySem L2 Sb
variable {P : Program} {w : World} {K : PySem.W.Frag} {mg : Str → Option Value} {base : Heap}
/-- beginning(end, start): the machine and its row -/
def spBegin (D : Addr) : Sp := fun vs H Q _ => ∃ (e : Addr) (st : Str) (hs ss : List Row), vs = [.ref e, .str st] ∧ EndAt D H e hs ss ∧
  ∀ (H' : Hp) (t ta : Addr) (xs : List V), Same H H' → H t = none → H' t = some (.tup [.ref ta, .int ((beginOf hs ss st).2 : Int)]) → H ta = some (.tup xs) → RowsV H xs (beginOf hs ss st).1 → Q (.ref t) H'
theorem ok_begin {f D hA sA p1 g1 p2 g2 : Addr} {fd fd1 fd2 : FuncData} (F : Fun K "beginning" "beginning" sbeginning f fd) (TE : TxtE K mg D hA sA)
    (Q_hearer : Px P w K mg base D p1 g1 fd1 "hearer" "hearer_rows") (Q_sender : Px P w K mg base D p2 g2 fd2 "sender" "sender_rows") : FnOk P w K mg base CX0 3 f fd ["end", "start"] (spBegin D) := by
  have T := TE.toTxt
  refine F.ok scbeginning (fun vs H Q E h => ?_) (fun cdv A outer s H vs Q E hr h => ?_)
  · obtain ⟨e, st, hs, ss, rfl, _⟩ := h
    rfl
  · obtain ⟨e, st, hs, ss, rfl, ⟨dx, t1, t2, t3, xs, ys, zs, us, he, e1, r1, e2, r2, e3, n1, n2⟩, k⟩ := h
    refine ⟨_, (pss_cons (ps_if (pt_cmpR op_eq (pv 1) pe_str (nomark _)) (pss_one (ps_ret (pe_tup (pa_cons (pe_prop (pv 0) TE.clD Q_sender.pof Q_sender.ok (hr.mono (by decide)) Q_sender.bd .nil pass0 rfl) (pa_cons pe_int pa_nil))))) pss_nil)
  (pss_cons (ps_if (pt_cmpR op_eq (pv 1) pe_str (nomark _)) (pss_one (ps_ret (pe_tup (pa_cons (pe_prop (pv 0) TE.clD Q_hearer.pof Q_hearer.ok (hr.mono (by decide)) Q_hearer.bd .nil pass0 rfl) (pa_cons pe_int pa_nil))))) pss_nil)
  (pss_one (ps_ret (pe_tup (pa_cons (pe_prop (pv 0) TE.clD Q_hearer.pof Q_hearer.ok (hr.mono (by decide)) Q_hearer.bd .nil pass0 rfl) (pa_cons pe_int pa_nil))))))), ?_⟩
    refine ⟨_, rfl, rfl, _, rfl, ?_⟩
    by_cases c : st = "sender"
    · have eb : beginOf hs ss st = (ss, 0) := by
        unfold beginOf
        rw [if_pos c]
      rw [eb] at k
      refine ite2 (fun _ => ?_) (fun z => absurd (decide_eq_true (by rw [c])) z)
      exact ⟨_, rfl, e, dx, _, rfl, he, e, dx, _, .ref t2, rfl, he, rfl, (by show 2 ≤ sizeLine; decide), fun t ht => k _ t t2 ys (Sb.Same.upd ht) ht upd_same e2 r2⟩
    · refine ite2 (fun z => absurd (V.str.inj (of_decide_eq_true z)) c) (fun _ => ?_)
      refine ⟨_, rfl, rfl, _, rfl, ?_⟩
      by_cases c2 : st = "wrong"
      · have eb : beginOf hs ss st = (hs, 1) := by
          unfold beginOf
          rw [if_neg c, if_pos c2]
        rw [eb] at k
        refine ite2 (fun _ => ?_) (fun z => absurd (decide_eq_true (by rw [c2])) z)
        exact ⟨_, rfl, e, dx, _, rfl, he, e, dx, _, .ref t1, rfl, he, rfl, (by show 2 ≤ sizeLine; decide), fun t ht => k _ t t1 xs (Sb.Same.upd ht) ht upd_same e1 r1⟩
      · have eb : beginOf hs ss st = (hs, 0) := by
          unfold beginOf
          rw [if_neg c, if_neg c2]
        rw [eb] at k
        refine ite2 (fun z => absurd (V.str.inj (of_decide_eq_true z)) c2) (fun _ => ?_)
        exact ⟨_, rfl, e, dx, _, rfl, he, e, dx, _, .ref t1, rfl, he, rfl, (by show 2 ≤ sizeLine; decide), fun t ht => k _ t t1 xs (Sb.Same.upd ht) ht upd_same e1 r1⟩
/-- seen_at(rows, place) -/
def spSeen : Sp := fun vs H Q _ => ∃ (l : Addr) (xs : List V) (rs : List Row) (p : Pl), vs = [.ref l, p.v] ∧ H l = some (.tup xs) ∧ RowsV H xs rs ∧ (∀ i, p = .num i → i < rs.length) ∧
  ∀ (H' : Hp) (t : Addr), Same H H' → H t = none → H' t = some (.tup (seenVs rs p)) → Q (.ref t) H'
theorem ok_seen {f fN : Addr} {fd fdN : FuncData} (F : Fun K "seen_at" "seen_at" sseen_at f fd) (T : Txt K mg) (G_is_number : Fx P w K mg base CX0 1 "is_number" fN fdN ["value"] spNum) : FnOk P w K mg base CX0 2 f fd ["rows", "place"] spSeen := by
  refine F.ok scseen_at (fun vs H Q E h => ?_) (fun cdv A outer s H vs Q E hr h => ?_)
  · obtain ⟨l, xs, rs, p, rfl, _⟩ := h
    rfl
  · obtain ⟨l, xs, rs, p, rfl, hl, hR, hp, k⟩ := h
    refine ⟨_, (pss_cons (ps_if (pt_val (pe_call G_is_number.ok (hr.mono (by decide)) rfl G_is_number.mg G_is_number.kp G_is_number.bd .nil pass0 (pa_cons (pv 1) pa_nil))) (pss_one (ps_ret (pe_tup (pa_cons pe_str (pa_cons (pe_ix ix_tup (pe_ix ix_tup (pv 0) (pv 1) (fun _ _ => rfl)) pe_int (fun _ _ => rfl)) pa_nil))))) pss_nil)
  (pss_one (ps_ret (pe_tup (pa_cons pe_str (pa_cons (pv 1) pa_nil)))))), ?_⟩
    cases p with
    | word z =>
      refine ⟨_, rfl, .word z, rfl, _, rfl, iteF ?_⟩
      exact ⟨_, rfl, (by show 2 ≤ sizeLine; decide), fun t ht => k _ t (Sb.Same.upd ht) ht upd_same⟩
    | num i =>
      have hi := hp i rfl
      obtain ⟨r, hr'⟩ : ∃ r, rs[i]? = some r := ⟨rs[i], List.getElem?_eq_getElem hi⟩
      obtain ⟨v, hv, ra, rfl, hra⟩ := hR.get' i r hr'
      have ep : putOf rs i = r.put := by
        unfold putOf
        rw [hr']
        rfl
      refine ⟨_, rfl, .num i, rfl, _, rfl, iteT ?_⟩
      refine ⟨_, rfl, _, rfl, l, xs, _, _, rfl, rfl, SqT.of hl, atI_nat hv, ra, _, 0, _, rfl, rfl, SqT.of hra, rfl, (by show 2 ≤ sizeLine; decide), fun t ht => ?_⟩
      refine k _ t (Sb.Same.upd ht) ht ?_
      show upd H t _ t = some (.tup [.str "put", .int (putOf rs i : Int)])
      rw [ep]
      exact upd_same
theorem natsV_at {bs : List Nat} {i : Nat} {x : V} (h : (natsV bs)[i]? = some x) : ∃ n, bs[i]? = some n ∧ x = .int (n : Int) := by
  unfold natsV at h
  rw [List.getElem?_map] at h
  cases e : bs[i]? with
  | none =>
    rw [e] at h
    cases h
  | some n =>
    rw [e] at h
    exact ⟨n, rfl, (Option.some.inj h).symm⟩
/-- shown(end, start, bits) -/
def spShown (K : PySem.W.Frag) (D : Addr) : Sp := fun vs H Q _ => ∃ (e b : Addr) (st : Str) (hs ss : List Row) (ws : List Str) (bs : List Nat), vs = [.ref e, .str st, .ref b] ∧ EndAt D H e hs ss ∧ SqE K H b (natsV bs) ∧ (∀ x, x ∈ bs → x = 0 ∨ x = 1) ∧ bs.length ≤ 1000 ∧
  (∀ r, r ∈ (beginOf hs ss st).1 → r.Ok (beginOf hs ss st).1.length ws) ∧ (beginOf hs ss st).2 < (beginOf hs ss st).1.length ∧
  ∀ (H' : Hp) (t : Addr), Same H H' → H t = none → H' t = some (.tup (seenVs (beginOf hs ss st).1 (walkPl (beginOf hs ss st).1 (.num (beginOf hs ss st).2) bs))) → Q (.ref t) H'
theorem ok_shown {f fB fS fN D : Addr} {fd fdB fdS fdN : FuncData} (F : Fun K "shown" "shown" sshown f fd) (T : Txt K mg) (G_is_number : Fx P w K mg base CX0 1 "is_number" fN fdN ["value"] spNum)
    (G_beginning : Fx P w K mg base CX0 3 "beginning" fB fdB ["end", "start"] (spBegin D)) (G_seen_at : Fx P w K mg base CX0 2 "seen_at" fS fdS ["rows", "place"] spSeen) : FnOk P w K mg base CX0 4 f fd ["end", "start", "bits"] (spShown K D) := by
  refine F.ok scshown (fun vs H Q E h => ?_) (fun cdv A outer s H vs Q E hr h => ?_)
  · obtain ⟨e, b, st, hs, ss, ws, bs, rfl, _⟩ := h
    rfl
  · obtain ⟨e, b, st, hs, ss, ws, bs, rfl, hE, hb, hbit, hbl, hok, hbeg, k⟩ := h
    generalize eq : beginOf hs ss st = q at hok hbeg k
    obtain ⟨rs, b0⟩ := q
    have hok : ∀ r, r ∈ rs → r.Ok rs.length ws := hok
    have hbeg : b0 < rs.length := hbeg
    refine ⟨_, (pss_cons (ps_asg (pe_call G_beginning.ok (hr.mono (by decide)) rfl G_beginning.mg G_beginning.kp G_beginning.bd .nil pass0 (pa_cons (pv 0) (pa_cons (pv 1) pa_nil))) (pg_tup rfl (pgs_cons (pg_name (i := 3) scshown.nd rfl (Or.inl rfl)) (pgs_cons (pg_name (i := 4) scshown.nd rfl (Or.inl rfl)) pgs_nil))))
  (C8.pss_cut (ps_for PassesOwn.never rfl (pi_or (pi_list (pv 2)) (pi_tup (pv 2))) (pg_name (i := 5) scshown.nd rfl (Or.inl rfl)) (pss_cons (ps_if (pt_not (pt_val (pe_call G_is_number.ok (hr.mono (by decide)) rfl G_is_number.mg G_is_number.kp G_is_number.bd .nil pass0 (pa_cons (pv 4) pa_nil)))) (pss_one ps_break) pss_nil)
  (pss_one (ps_set (i := 4) scshown.nd rfl (Or.inl rfl) (pe_ix ix_tup (pe_ix ix_tup (pv 3) (pv 4) (fun _ _ => rfl)) (pe_op op_add pe_int (pv 5)) (fun _ _ => rfl))))))
  (pss_one (ps_ret (pe_call G_seen_at.ok (hr.mono (by decide)) rfl G_seen_at.mg G_seen_at.kp G_seen_at.bd .nil pass0 (pa_cons (pv 3) (pa_cons (pv 4) pa_nil))))))), ?_⟩
    refine ⟨_, rfl, _, rfl, e, st, hs, ss, rfl, hE, fun H1 t ta xs s1 ht et eta hR => ?_⟩
    rw [eq] at et hR
    refine ⟨t, _, rfl, SqT.of et, rfl, _, _, rfl, _, _, rfl, rfl, ?_⟩
    refine ⟨fun σ' H' => ∃ v5 : Option V, σ' = [some (.ref e), some (.str st), some (.ref b), some (.ref ta), some (walkPl rs (.num b0) bs).v, v5] ∧ Same H H', ?_, ?_⟩
    · rcases hb.same s1 with hb1 | hb1
      · refine .inl ⟨_, rfl, b, rfl, ⟨_, hb1⟩, for_list (K := K) (a := b) (xs := natsV bs) (fun i σ' H' => ∃ v5 : Option V, σ' = [some (.ref e), some (.str st), some (.ref b), some (.ref ta), some (walkPl rs (.num b0) (bs.take i)).v, v5] ∧ Same H1 H')
          ⟨none, rfl, Same.refl _⟩ (fun i σ' H' _ ⟨_, _, z⟩ => z.seq hb1) ?_ ?_⟩
        · rintro i x σ' H2 hx ⟨v5, rfl, s2⟩
          obtain ⟨n, hn, rfl⟩ := natsV_at hx
          have hnb : n = 0 ∨ n = 1 := hbit n (List.mem_of_getElem? hn)
          have hw := walk_ok hok (bs.take i) (p := .num b0) hbeg
          have etk : bs.take (i + 1) = bs.take i ++ [n] := by
            rw [List.take_add_one, hn]
            rfl
          generalize ew : walkPl rs (.num b0) (bs.take i) = p at hw
          refine ⟨_, rfl, p, rfl, _, rfl, ?_⟩
          cases p with
          | word z =>
            have e2 := walk_stays ew
            exact iteT ⟨_, by rw [e2]; rfl, s1.trans s2⟩
          | num j =>
            have hj : j < rs.length := hw
            obtain ⟨r, hr'⟩ : ∃ r, rs[j]? = some r := ⟨rs[j], List.getElem?_eq_getElem hj⟩
            obtain ⟨v, hv, ra, rfl, hra⟩ := hR.get' j r hr'
            have e2 : walkPl rs (.num b0) (bs.take (i + 1)) = if n = 0 then r.a else r.b := by
              rw [etk, walk_snoc, ew]
              show (match rs[j]? with | some r => if n = 0 then r.a else r.b | none => Pl.num j) = _
              rw [hr']
            refine iteF ⟨_, rfl, _, rfl, ta, xs, _, _, rfl, rfl, SqT.of (s2 _ _ (s1 _ _ eta)), atI_nat hv, _, rfl, 1, (n : Int), rfl, rfl, ra, _, _, (if n = 0 then r.a else r.b).v, rfl, rfl, SqT.of (s2 _ _ (s1 _ _ hra)), by rcases hnb with rfl | rfl <;> rfl, ⟨_, by rw [e2]; rfl, s2⟩⟩
        · rintro σ' H2 ⟨v5, rfl, s2⟩
          rw [natsV_len, List.take_length]
          exact ⟨_, rfl, s1.trans s2⟩
      · refine .inr ⟨_, rfl, b, rfl, ⟨_, hb1⟩, for_tup (K := K) (a := b) (xs := natsV bs) (fun i σ' H' => ∃ v5 : Option V, σ' = [some (.ref e), some (.str st), some (.ref b), some (.ref ta), some (walkPl rs (.num b0) (bs.take i)).v, v5] ∧ Same H1 H')
          ⟨none, rfl, Same.refl _⟩ (fun i σ' H' _ ⟨_, _, z⟩ => sqT_same z hb1) ?_ ?_⟩
        · rintro i x σ' H2 hx ⟨v5, rfl, s2⟩
          obtain ⟨n, hn, rfl⟩ := natsV_at hx
          have hnb : n = 0 ∨ n = 1 := hbit n (List.mem_of_getElem? hn)
          have hw := walk_ok hok (bs.take i) (p := .num b0) hbeg
          have etk : bs.take (i + 1) = bs.take i ++ [n] := by
            rw [List.take_add_one, hn]
            rfl
          generalize ew : walkPl rs (.num b0) (bs.take i) = p at hw
          refine ⟨_, rfl, p, rfl, _, rfl, ?_⟩
          cases p with
          | word z =>
            have e2 := walk_stays ew
            exact iteT ⟨_, by rw [e2]; rfl, s1.trans s2⟩
          | num j =>
            have hj : j < rs.length := hw
            obtain ⟨r, hr'⟩ : ∃ r, rs[j]? = some r := ⟨rs[j], List.getElem?_eq_getElem hj⟩
            obtain ⟨v, hv, ra, rfl, hra⟩ := hR.get' j r hr'
            have e2 : walkPl rs (.num b0) (bs.take (i + 1)) = if n = 0 then r.a else r.b := by
              rw [etk, walk_snoc, ew]
              show (match rs[j]? with | some r => if n = 0 then r.a else r.b | none => Pl.num j) = _
              rw [hr']
            refine iteF ⟨_, rfl, _, rfl, ta, xs, _, _, rfl, rfl, SqT.of (s2 _ _ (s1 _ _ eta)), atI_nat hv, _, rfl, 1, (n : Int), rfl, rfl, ra, _, _, (if n = 0 then r.a else r.b).v, rfl, rfl, SqT.of (s2 _ _ (s1 _ _ hra)), by rcases hnb with rfl | rfl <;> rfl, ⟨_, by rw [e2]; rfl, s2⟩⟩
        · rintro σ' H2 ⟨v5, rfl, s2⟩
          rw [natsV_len, List.take_length]
          exact ⟨_, rfl, s1.trans s2⟩
    · rintro σ' H2 ⟨v5, rfl, s2⟩
      have hw := walk_ok hok bs (p := .num b0) hbeg
      exact ⟨_, rfl, _, rfl, ta, xs, rs, _, rfl, s2 _ _ eta, hR.same s2, fun i z => by rw [z] at hw; exact hw, fun H3 t3 s3 h3 e3 => k H3 t3 (s2.trans s3) (s2.free h3) e3⟩

end K09

set_option Elab.async false
set_option linter.all false
set_option maxRecDepth 100000
set_option maxHeartbeats 4000000
namespace K09
open PySem L2 Sb
variable {P : Program} {w : World} {K : PySem.W.Frag} {mg : Str → Option Value} {base : Heap}
/-- walked(hearer, sender, name, bits) -/
def spWalked : Sp := fun vs H Q _ => ∃ (h1 h2 b : Addr) (st : Str) (xs ys : List V) (hs ss : List Row) (ws : List Str) (bs : List Nat), vs = [.ref h1, .ref h2, .str st, .ref b] ∧ isStart st ∧ H h1 = some (.lst xs) ∧ RowsV H xs hs ∧ H h2 = some (.lst ys) ∧ RowsV H ys ss ∧
  H b = some (.lst (natsV bs)) ∧ (∀ x, x ∈ bs → x = 0 ∨ x = 1) ∧ (∀ r, r ∈ (beginOf hs ss st).1 → r.Ok (beginOf hs ss st).1.length ws) ∧ (beginOf hs ss st).2 < (beginOf hs ss st).1.length ∧
  ∀ (H' : Hp) (t : Addr), Same H H' → H t = none → H' t = some (.tup (seenVs (beginOf hs ss st).1 (walkPl (beginOf hs ss st).1 (.num (beginOf hs ss st).2) bs))) → Q (.ref t) H'
theorem ok_walked {f : Addr} {fd : FuncData} (F : Fun K "_law_walked" "_law_walked" sL_walked f fd) (T : Txt K mg) : FnOk P w K mg base CX0 1 f fd ["_law_hearer_here", "_law_sender_here", "_law_name", "_law_some"] spWalked := by
  refine F.ok scL_walked (fun vs H Q E h => ?_) (fun cdv A outer s H vs Q E hr h => ?_)
  · obtain ⟨h1, h2, b, st, xs, ys, hs, ss, ws, bs, rfl, _⟩ := h
    rfl
  · obtain ⟨h1, h2, b, st, xs, ys, hs, ss, ws, bs, rfl, hst, e1, r1, e2, r2, eb, hbit, hok, hbeg, k⟩ := h
    refine ⟨_, (C8.pss_cut (ps_asg (pe_ifExp (pt_cmpR op_eq (pv 2) pe_str (nomark _)) (pe_tup (pa_cons (pv 1) (pa_cons pe_int pa_nil))) (pe_tup (pa_cons (pv 0) (pa_cons (pe_dget (hu_of hr) (pe_disp (pps_cons pe_str pe_int (pps_cons pe_str pe_int pps_nil)) (by rfl) (by rfl) (fun z => by cases z) (by decide)) (pv 2) (fun _ _ => rfl)) pa_nil)))) (pg_tup rfl (pgs_cons (pg_name (i := 4) scL_walked.nd rfl (Or.inl rfl)) (pgs_cons (pg_name (i := 5) scL_walked.nd rfl (Or.inl rfl)) pgs_nil))))
  (pss_cons (ps_for PassesOwn.never rfl (pi_list (pv 3)) (pg_name (i := 6) scL_walked.nd rfl (Or.inl rfl)) (pss_one (ps_if (pt_not (pt_val (pe_callB call_isi (by rfl) T.b_isinstance (by decide +kernel) (pa_cons (pv 5) (pa_cons (pe_bltn (v := .ty "str") (by rfl) T.b_str (by decide +kernel) rfl) pa_nil))))) (pss_one (ps_set (i := 5) scL_walked.nd rfl (Or.inl rfl) (pe_ifExp (pt_cmpR op_eq (pv 6) pe_int (nomark _)) (pe_ix ix_tup (pe_ix ix_list (pv 4) (pv 5) (fun _ _ => rfl)) pe_int (fun _ _ => rfl)) (pe_ix ix_tup (pe_ix ix_list (pv 4) (pv 5) (fun _ _ => rfl)) pe_int (fun _ _ => rfl))))) pss_nil)))
  (pss_one (ps_ret (pe_ifExp (pt_val (pe_callB call_isi (by rfl) T.b_isinstance (by decide +kernel) (pa_cons (pv 5) (pa_cons (pe_bltn (v := .ty "str") (by rfl) T.b_str (by decide +kernel) rfl) pa_nil)))) (pe_tup (pa_cons pe_str (pa_cons (pv 5) pa_nil))) (pe_tup (pa_cons pe_str (pa_cons (pe_ix ix_tup (pe_ix ix_list (pv 4) (pv 5) (fun _ _ => rfl)) pe_int (fun _ _ => rfl)) pa_nil)))))))), ?_⟩
    refine ⟨fun σ' H' => ∃ (rl : Addr) (zs : List V), σ' = [some (.ref h1), some (.ref h2), some (.str st), some (.ref b), some (.ref rl), some (.int ((beginOf hs ss st).2 : Int)), none] ∧ Same H H' ∧ H' rl = some (.lst zs) ∧ RowsV H' zs (beginOf hs ss st).1, ?_, ?_⟩
    · refine ⟨_, rfl, rfl, _, rfl, ?_⟩
      rcases hst with rfl | rfl | rfl
      · refine ite2 (fun z => absurd z (by decide +kernel)) (fun _ => ?_)
        refine ⟨_, rfl, fun p hp => ⟨upd_same, [(.inr "right", .int 0), (.inr "wrong", .int 1)], rfl, (by decide), _, rfl, p, .int 0, rfl, dget_of (k := .inr "right") upd_same (by rfl), (by show 2 ≤ sizeLine; decide), fun t ht => ?_⟩⟩
        refine ⟨t, _, rfl, SqT.of upd_same, rfl, _, _, rfl, _, _, rfl, rfl, ?_⟩
        have sx : Same H (upd (upd (upd H p (.dK [])) p (.dK (mergeK [] [(.inr "right", .int 0), (.inr "wrong", .int 1)]))) t (.tup [.ref h1, .int 0])) := by rw [upd_upd] at ht ⊢; exact (Sb.Same.upd hp).trans (Sb.Same.upd ht)
        exact ⟨h1, xs, rfl, sx, sx _ _ e1, r1.same sx⟩
      · refine ite2 (fun z => absurd z (by decide +kernel)) (fun _ => ?_)
        refine ⟨_, rfl, fun p hp => ⟨upd_same, [(.inr "right", .int 0), (.inr "wrong", .int 1)], rfl, (by decide), _, rfl, p, .int 1, rfl, dget_of (k := .inr "wrong") upd_same (by rfl), (by show 2 ≤ sizeLine; decide), fun t ht => ?_⟩⟩
        refine ⟨t, _, rfl, SqT.of upd_same, rfl, _, _, rfl, _, _, rfl, rfl, ?_⟩
        have sx : Same H (upd (upd (upd H p (.dK [])) p (.dK (mergeK [] [(.inr "right", .int 0), (.inr "wrong", .int 1)]))) t (.tup [.ref h1, .int 1])) := by rw [upd_upd] at ht ⊢; exact (Sb.Same.upd hp).trans (Sb.Same.upd ht)
        exact ⟨h1, xs, rfl, sx, sx _ _ e1, r1.same sx⟩
      · refine ite2 (fun _ => ?_) (fun z => absurd (decide_eq_true rfl) z)
        refine ⟨_, rfl, (by show 2 ≤ sizeLine; decide), fun t ht => ?_⟩
        refine ⟨t, _, rfl, SqT.of upd_same, rfl, _, _, rfl, _, _, rfl, rfl, ?_⟩
        have sx : Same H (upd H t (.tup [.ref h2, .int 0])) := Sb.Same.upd ht
        exact ⟨h2, ys, rfl, sx, sx _ _ e2, r2.same sx⟩
    · generalize eq : beginOf hs ss st = q at hok hbeg k
      obtain ⟨rs, b0⟩ := q
      have hok : ∀ r, r ∈ rs → r.Ok rs.length ws := hok
      have hbeg : b0 < rs.length := hbeg
      rintro σ' H1 ⟨rl, zs, rfl, s1, el, hR⟩
      have hR : RowsV H1 zs rs := hR
      refine ⟨_, rfl, b, rfl, ⟨_, SqL.of (s1 _ _ eb)⟩, for_list (K := K) (a := b) (xs := natsV bs) (fun i σ' H' => ∃ v6 : Option V, σ' = [some (.ref h1), some (.ref h2), some (.str st), some (.ref b), some (.ref rl), some (walkPl rs (.num b0) (bs.take i)).v, v6] ∧ Same H1 H')
        ⟨none, rfl, Same.refl _⟩ (fun i σ' H' _ ⟨_, _, z⟩ => SqL.of (z _ _ (s1 _ _ eb))) ?_ ?_⟩
      · rintro i x σ' H2 hx ⟨v6, rfl, s2⟩
        obtain ⟨n, hn, rfl⟩ := natsV_at hx
        have hnb : n = 0 ∨ n = 1 := hbit n (List.mem_of_getElem? hn)
        have hw := walk_ok hok (bs.take i) (p := .num b0) hbeg
        have etk : bs.take (i + 1) = bs.take i ++ [n] := by
          rw [List.take_add_one, hn]
          rfl
        generalize ew : walkPl rs (.num b0) (bs.take i) = p at hw
        cases p with
        | word z =>
          refine ⟨_, rfl, _, _, _, _, true, rfl, .ty _, .base (.str _), kit_ty (by decide +kernel), true, rfl, iteF ⟨some (.int (n : Int)), ?_, s2⟩⟩
          rw [etk, walk_snoc, ew]
          rfl
        | num j =>
          have hj : j < rs.length := hw
          obtain ⟨r, hr'⟩ : ∃ r, rs[j]? = some r := ⟨rs[j], List.getElem?_eq_getElem hj⟩
          obtain ⟨v, hv, ra, rfl, hra⟩ := hR.get' j r hr'
          have e2 : walkPl rs (.num b0) (bs.take (i + 1)) = if n = 0 then r.a else r.b := by
            rw [etk, walk_snoc, ew]
            show (match rs[j]? with | some r => if n = 0 then r.a else r.b | none => Pl.num j) = _
            rw [hr']
          refine ⟨_, rfl, _, _, _, _, false, rfl, .ty _, .base (.int _), kit_ty (by decide +kernel), false, rfl, iteT ?_⟩
          refine ⟨_, rfl, rfl, _, rfl, ?_⟩
          rcases hnb with rfl | rfl
          · refine ite2 (fun _ => ?_) (fun z => absurd (decide_eq_true rfl) z)
            exact ⟨_, rfl, _, rfl, rl, zs, _, _, rfl, rfl, SqL.of (s2 _ _ el), atI_nat hv, ra, _, 1, _, rfl, rfl, SqT.of (s2 _ _ hra), rfl, ⟨_, by rw [e2]; rfl, s2⟩⟩
          · refine ite2 (fun z => absurd z (by decide)) (fun _ => ?_)
            exact ⟨_, rfl, _, rfl, rl, zs, _, _, rfl, rfl, SqL.of (s2 _ _ el), atI_nat hv, ra, _, 2, _, rfl, rfl, SqT.of (s2 _ _ hra), rfl, ⟨_, by rw [e2]; rfl, s2⟩⟩
      · rintro σ' H2 ⟨v6, rfl, s2⟩
        rw [natsV_len, List.take_length]
        have hw := walk_ok hok bs (p := .num b0) hbeg
        have k2 : ∀ (H' : Hp) (t : Addr), Same H H' → H t = none → H' t = some (.tup (seenVs rs (walkPl rs (.num b0) bs))) → Q (.ref t) H' := k
        generalize walkPl rs (.num b0) bs = p at hw k2
        cases p with
        | word z =>
          refine ⟨_, rfl, _, _, _, _, true, rfl, .ty _, .base (.str _), kit_ty (by decide +kernel), true, rfl, iteT ?_⟩
          exact ⟨_, rfl, (by show 2 ≤ sizeLine; decide), fun t ht => k2 _ t ((s1.trans s2).trans (Sb.Same.upd ht)) ((s1.trans s2).free ht) upd_same⟩
        | num j =>
          have hj : j < rs.length := hw
          obtain ⟨r, hr'⟩ : ∃ r, rs[j]? = some r := ⟨rs[j], List.getElem?_eq_getElem hj⟩
          obtain ⟨v, hv, ra, rfl, hra⟩ := hR.get' j r hr'
          have ep : putOf rs j = r.put := by
            unfold putOf
            rw [hr']
            rfl
          refine ⟨_, rfl, _, _, _, _, false, rfl, .ty _, .base (.int _), kit_ty (by decide +kernel), false, rfl, iteF ?_⟩
          refine ⟨_, rfl, _, rfl, rl, zs, _, _, rfl, rfl, SqL.of (s2 _ _ el), atI_nat hv, ra, _, 0, _, rfl, rfl, SqT.of (s2 _ _ hra), rfl, (by show 2 ≤ sizeLine; decide), fun t ht => ?_⟩
          refine k2 _ t ((s1.trans s2).trans (Sb.Same.upd ht)) ((s1.trans s2).free ht) ?_
          show upd H2 t _ t = some (.tup [.str "put", .int (putOf rs j : Int)])
          rw [ep]
          exact upd_same
theorem EndAt.same {D e : Addr} {H H1 : Hp} {hs ss : List Row} (h : EndAt D H e hs ss) (s : Same H H1) : EndAt D H1 e hs ss := by
  obtain ⟨dx, t1, t2, t3, xs, ys, zs, us, he, e1, r1, e2, r2, e3, n1, n2⟩ := h
  exact ⟨dx, t1, t2, t3, xs, ys, zs, us, s _ _ he, s _ _ e1, r1.same s, s _ _ e2, r2.same s, s _ _ e3, n1.same s, n2.same s⟩
theorem free_but {H H1 : Hp} {p t : Addr} {n : Nat} (b : But p H H1) (hB : Bag H1 p n) (h : H1 t = none) : H t = none := by
  cases e : H t with
  | none => rfl
  | some o =>
    by_cases c : t = p
    · obtain ⟨g, x, y, e1, _⟩ := hB
      rw [c, e1] at h
      cases h
    · rw [b _ _ e c] at h
      cases h
theorem EndAt.but {D e p : Addr} {H H1 : Hp} {n : Nat} {hs ss : List Row} (h : EndAt D H e hs ss) (b : But p H H1) (hB : Bag H p n) (ne : e ≠ p) : EndAt D H1 e hs ss := by
  obtain ⟨dx, t1, t2, t3, xs, ys, zs, us, he, e1, r1, e2, r2, e3, n1, n2⟩ := h
  have nt : ∀ {t : Addr} {xs : List V}, H t = some (.tup xs) → t ≠ p := fun z e => hB.no _ (by rw [← e]; exact z)
  have kn : ∀ {part : V} {as bs : List V}, Numbered H part as bs → Numbered H1 part as bs := fun N => ⟨N.1, fun i v z => by
    obtain ⟨a, e1, e2⟩ := N.2 i v z
    exact ⟨a, e1, b _ _ e2 (nt e2)⟩⟩
  exact ⟨dx, t1, t2, t3, xs, ys, zs, us, b _ _ he ne, b _ _ e1 (nt e1), r1.but b hB.no, b _ _ e2 (nt e2), r2.but b hB.no, b _ _ e3 (nt e3), kn n1, kn n2⟩
/-- told(bag, end, name, bits): what shown returns -/
def spTold9 (D : Addr) : Sp := fun vs H Q _ => ∃ (p e b : Addr) (n : Nat) (st : Str) (hs ss : List Row) (ws : List Str) (bs : List Nat), vs = [.ref p, .ref e, .str st, .ref b] ∧ Bag H p n ∧ n ≤ 1000000 ∧ p ≠ e ∧ p ≠ b ∧ EndAt D H e hs ss ∧ H b = some (.lst (natsV bs)) ∧ (∀ x, x ∈ bs → x = 0 ∨ x = 1) ∧ bs.length ≤ 1000 ∧
  (∀ r, r ∈ (beginOf hs ss st).1 → r.Ok (beginOf hs ss st).1.length ws) ∧ (beginOf hs ss st).2 < (beginOf hs ss st).1.length ∧
  ∀ (H' : Hp) (t : Addr), But p H H' → Bag H' p (n + 1) → H t = none → H' t = some (.tup (seenVs (beginOf hs ss st).1 (walkPl (beginOf hs ss st).1 (.num (beginOf hs ss st).2) bs))) → Q (.ref t) H'
theorem ok_told9 {f fT fS D : Addr} {fd fdT fdS : FuncData} (F : Fun K "_law_told" "_law_told" sL_told f fd) (T : Txt K mg) (G__law_take : Fx P w K mg base CX0 1 "_law_take" fT fdT ["_law_bag_here", "_law_many"] spTake)
    (G_shown : Fx P w K mg base CX0 4 "shown" fS fdS ["end", "start", "bits"] (spShown K D)) (kb : KBinds K fdS ["end", "start", "bits"] ["bits", "start", "end"] turn3 turn3) : FnOk P w K mg base CX0 5 f fd ["_law_bag_here", "_law_whole", "_law_name", "_law_some"] (spTold9 D) := by
  refine F.ok scL_told (fun vs H Q E h => ?_) (fun cdv A outer s H vs Q E hr h => ?_)
  · obtain ⟨p, e, b, n, st, hs, ss, ws, bs, rfl, _⟩ := h
    rfl
  · obtain ⟨p, e, b, n, st, hs, ss, ws, bs, rfl, hB, hn, npe, npb, hE, eb, hbit, hbl, hok, hbeg, k⟩ := h
    refine ⟨_, (pss_cons (ps_set (i := 4) scL_told.nd rfl (Or.inl rfl) (pe_call G__law_take.ok (hr.mono (by decide)) rfl G__law_take.mg G__law_take.kp G__law_take.bd .nil pass0 (pa_cons (pv 0) (pa_cons pe_int pa_nil))))
  (pss_cons (ps_if (pt_cmpR op_eq (pv 4) pe_int (nomark _)) (pss_one (ps_ret (pe_call G_shown.ok (hr.mono (by decide)) rfl G_shown.mg G_shown.kp G_shown.bd .nil pass0 (pa_cons (pv 1) (pa_cons (pv 2) (pa_cons (pe_callTy call_tuple_of (by rfl) T.b_tuple (by decide +kernel) (pa_cons (pv 3) pa_nil)) pa_nil)))))) pss_nil)
  (pss_one (ps_ret (pe_ifExp (pt_cmpR op_eq (pv 4) pe_int (nomark _)) (pe_call G_shown.ok (hr.mono (by decide)) rfl G_shown.mg G_shown.kp G_shown.bd .nil pass0 (pa_cons (pv 1) (pa_cons (pv 2) (pa_cons (pe_callTy call_list_of (by rfl) T.b_list (by decide +kernel) (pa_cons (pv 3) pa_nil)) pa_nil)))) (pe_callKo G_shown.ok (hr.mono (by decide)) rfl G_shown.mg G_shown.kp kb pass0 (pk_cons (pe_callTy call_tuple_of (by rfl) T.b_tuple (by decide +kernel) (pa_cons (pv 3) pa_nil)) (pk_cons (pv 2) (pk_cons (pv 1) pk_nil))))))))), ?_⟩
    refine ⟨_, rfl, p, n, 3, rfl, hB, by omega, by decide, by decide, fun H1 d d0 d1 hB1 b1 => ?_⟩
    have hE1 : EndAt D H1 e hs ss := hE.but b1 hB (Ne.symm npe)
    have eb1 : H1 b = some (.lst (natsV bs)) := b1 _ _ eb (Ne.symm npb)
    have fin : ∀ (H' : Hp) (t : Addr), Same H1 H' → H1 t = none → H' t = some (.tup (seenVs (beginOf hs ss st).1 (walkPl (beginOf hs ss st).1 (.num (beginOf hs ss st).2) bs))) → Q (.ref t) H' := fun H' t s' ht et =>
      k H' t (b1.trans (But.same s')) (hB1.same s') (free_but b1 hB1 ht) et
    refine ⟨_, rfl, rfl, _, rfl, ?_⟩
    refine ite2 (fun _ => ?_) (fun _ => ?_)
    · exact ⟨_, rfl, _, rfl, _, rfl, b, natsV bs, rfl, .inl ⟨SqL.of eb1, fun l hl => ⟨e, l, st, hs, ss, ws, bs, rfl, hE1.same (Sb.Same.upd hl), .inr (SqT.of upd_same), hbit, hbl, hok, hbeg, fun H' t s' ht et => fin H' t ((Sb.Same.upd hl).trans s') ((Sb.Same.upd hl).free ht) et⟩⟩⟩
    · refine ⟨_, rfl, rfl, _, rfl, ite2 (fun _ => ?_) (fun _ => ?_)⟩
      · exact ⟨_, rfl, _, rfl, _, rfl, b, natsV bs, rfl, .inl (SqL.of eb1), fun l hl => ⟨e, l, st, hs, ss, ws, bs, rfl, hE1.same (Sb.Same.upd hl), .inl (SqL.of upd_same), hbit, hbl, hok, hbeg, fun H' t s' ht et => fin H' t ((Sb.Same.upd hl).trans s') ((Sb.Same.upd hl).free ht) et⟩⟩
      · exact ⟨_, rfl, b, natsV bs, rfl, .inl ⟨SqL.of eb1, fun l hl => ⟨_, rfl, _, rfl, e, l, st, hs, ss, ws, bs, rfl, hE1.same (Sb.Same.upd hl), .inr (SqT.of upd_same), hbit, hbl, hok, hbeg, fun H' t s' ht et => fin H' t ((Sb.Same.upd hl).trans s') ((Sb.Same.upd hl).free ht) et⟩⟩⟩
theorem kb_shown {f : Addr} {fd : FuncData} (F : Fun K "shown" "shown" sshown f fd) : KBinds K fd ["end", "start", "bits"] ["bits", "start", "end"] turn3 turn3 := by
  obtain ⟨oc, od, kV, doc, pm, an, cdv, ct, osl, rfl, at_, cd_⟩ := F.ex
  refine ⟨fun s us ws X h => ?_, fun {vs us zs ws} r1 r2 => ?_⟩
  · match us, ws, h with
    | [], [b, st, e], _ => exact .of_eq rfl
  · cases r1 with
    | nil =>
      match zs, ws, r2 with
      | [], _, .nil => exact .nil
      | [_], _, .cons _ .nil => exact .nil
      | [_, _], _, .cons _ (.cons _ .nil) => exact .nil
      | [_, _, _], _, .cons a (.cons b (.cons c .nil)) => exact .cons c (.cons b (.cons a .nil))
      | _ :: _ :: _ :: _ :: _, _, .cons _ (.cons _ (.cons _ (.cons _ _))) => exact .nil
    | cons _ _ => exact .nil

end K09

set_option Elab.async false
set_option linter.all false
set_option maxRecDepth 100000
set_option maxHeartbeats 4000000
namespace K09
open PySem L2 Sb
variable {P : Program} {w : World} {K : PySem.W.Frag} {mg : Str → Option Value} {base : Heap}
theorem firsts_shaped (a b c : Int) : SeqAt.shaped (.list [.tuple [.str "put", .int a], .tuple [.str "put", .int b], .tuple [.str "put", .int c]]) = true := by
  have s1 : PyData.strOk "put" = true := by decide +kernel
  show ((PyData.list [.tuple [.str "put", .int a], .tuple [.str "put", .int b], .tuple [.str "put", .int c]]).canLay0 && decide ((PyData.list [.tuple [.str "put", .int a], .tuple [.str "put", .int b], .tuple [.str "put", .int c]]).depth ≤ 64)) = true
  rw [Bool.and_eq_true]
  exact ⟨by simp [PyData.canLay0, PyData.canLayAll0, s1], decide_eq_true (by simp [PyData.depth, PyData.depthAll])⟩
theorem begin_ok {hs ss : List Row} {st : Str} (h1 : HearerOk hs) (h2 : SenderOk ss) (hst : isStart st) : ∃ ws, isWords ws ∧ (∀ r, r ∈ (beginOf hs ss st).1 → r.Ok (beginOf hs ss st).1.length ws) ∧ (beginOf hs ss st).2 < (beginOf hs ss st).1.length := by
  rcases hst with rfl | rfl | rfl
  · exact ⟨hearerWords, .inl rfl, h1.2.2.1, Nat.lt_of_lt_of_le (by decide : 0 < 2) h1.1⟩
  · exact ⟨hearerWords, .inl rfl, h1.2.2.1, h1.1⟩
  · exact ⟨senderWords, .inr rfl, h2.2.2, h2.1⟩
def spLaw (K : PySem.W.Frag) : Sp := fun vs H Q _ => ∃ (a : Addr) (ns : List Int), vs = [.ref a] ∧ SqL K H a (ns.map V.int) ∧ ns.length ≤ 63 ∧ ∀ H', Q (.bl true) H'
theorem ok_law {f fB fT fH fS fE fW fO fSh C D : Addr} {fd fdB fdT fdH fdS fdE fdW fdO fdSh : FuncData} (F : Fun K "law" "law" slaw f fd) (T : Txt K mg)
    (G__law_bag : Fx P w K mg base CX0 1 "_law_bag" fB fdB ["_law_script", "_law_at"] (spBag K)) (G__law_take : Fx P w K mg base CX0 1 "_law_take" fT fdT ["_law_bag_here", "_law_many"] spTake)
    (G__law_hearer : Fx P w K mg base CX0 4 "_law_hearer" fH fdH ["_law_bag_here", "_law_many"] spHearer) (G__law_sender : Fx P w K mg base CX0 4 "_law_sender" fS fdS ["_law_bag_here", "_law_many"] spSender)
    (M_End : Mx P w K mg base (L2.CX P w) 5 "End" D fE fdE ["self", "hearer", "sender"] (spEnd C D)) (G__law_walked : Fx P w K mg base CX0 1 "_law_walked" fW fdW ["_law_hearer_here", "_law_sender_here", "_law_name", "_law_some"] spWalked)
    (G__law_told : Fx P w K mg base CX0 5 "_law_told" fO fdO ["_law_bag_here", "_law_whole", "_law_name", "_law_some"] (spTold9 D)) (G_shown : Fx P w K mg base CX0 4 "shown" fSh fdSh ["end", "start", "bits"] (spShown K D)) :
    FnG P w K mg base CX0 9 f fd ["_law_script"] (spLaw K) := by
  refine okG F sclaw (fun vs H Q E h => ?_) (fun cdv A outer s H vs Q E hg hr h => ?_)
  · obtain ⟨a, ns, rfl, _⟩ := h
    rfl
  · obtain ⟨a, ns, rfl, hS, hlen, k⟩ := h
    have hg' := guards_in (e := PyProof.Rows.envOfC "law" (defScope slaw) s.heap.objs.size f cdv) hg
    have hu66 : (A.deeper (PyProof.Rows.envOfC "law" (defScope slaw) s.heap.objs.size f cdv)).units + 66 < cLine := by have := hr.un; omega
    refine ⟨_, (pss_cons (ps_for PassesOwn.never rfl (pi_range1 (by rfl) T.b_range (pa_cons (pe_callB (call_max2 rfl) (by rfl) T.b_max (by decide +kernel) (pa_cons pe_int (pa_cons (pe_callB (call_min2 rfl) (by rfl) T.b_min (by decide +kernel) (pa_cons pe_int (pa_cons (pe_callB call_len_seq (by rfl) T.b_len (by decide +kernel) (pa_cons (pv 0) pa_nil)) pa_nil))) pa_nil))) pa_nil)) (pg_name (i := 1) sclaw.nd rfl (Or.inl rfl)) (pss_cons (ps_set (i := 2) sclaw.nd rfl (Or.inl rfl) (pe_call G__law_bag.ok (hr.mono (by decide)) rfl G__law_bag.mg G__law_bag.kp G__law_bag.bd .nil pass0 (pa_cons (pv 0) (pa_cons (pv 1) pa_nil))))
  (pss_one (ps_for PassesOwn.never rfl (pi_range1 (by rfl) T.b_range (pa_cons pe_int pa_nil)) (pg_name (i := 3) sclaw.nd rfl (Or.inl rfl)) (pss_cons (ps_par (i := 4) (j := 5) rfl sclaw.nd rfl rfl (by decide) rfl rfl (pa_cons (pe_call G__law_hearer.ok (hr.mono (by decide)) rfl G__law_hearer.mg G__law_hearer.kp G__law_hearer.bd .nil pass0 (pa_cons (pv 2) (pa_cons (pe_op op_add pe_int (pe_call G__law_take.ok (hr.mono (by decide)) rfl G__law_take.mg G__law_take.kp G__law_take.bd .nil pass0 (pa_cons (pv 2) (pa_cons pe_int pa_nil)))) pa_nil))) (pa_cons (pe_call G__law_sender.ok (hr.mono (by decide)) rfl G__law_sender.mg G__law_sender.kp G__law_sender.bd .nil pass0 (pa_cons (pv 2) (pa_cons (pe_op op_add pe_int (pe_call G__law_take.ok (hr.mono (by decide)) rfl G__law_take.mg G__law_take.kp G__law_take.bd .nil pass0 (pa_cons (pv 2) (pa_cons pe_int pa_nil)))) pa_nil))) pa_nil)) (by rfl))
  (pss_cons (ps_set (i := 6) sclaw.nd rfl (Or.inl rfl) (pe_make M_End.mkC M_End.ok (hr.mono (by decide)) rfl M_End.mg M_End.bd .nil passNo (pa_cons (pv 4) (pa_cons (pv 5) pa_nil))))
  (pss_cons (ps_for PassesOwn.never rfl (pi_list (pe_lst (pa_cons pe_str (pa_cons pe_str (pa_cons pe_str pa_nil))))) (pg_name (i := 7) sclaw.nd rfl (Or.inl rfl)) (pss_cons (ps_par (i := 8) (j := 9) rfl sclaw.nd rfl rfl (by decide) rfl rfl (pa_cons (pe_lst pa_nil) (pa_cons (pe_call G__law_take.ok (hr.mono (by decide)) rfl G__law_take.mg G__law_take.kp G__law_take.bd .nil pass0 (pa_cons (pv 2) (pa_cons pe_int pa_nil))) pa_nil)) (by rfl))
  (pss_cons (ps_for PassesOwn.never rfl (pi_range1 (by rfl) T.b_range (pa_cons (pe_call G__law_take.ok (hr.mono (by decide)) rfl G__law_take.mg G__law_take.kp G__law_take.bd .nil pass0 (pa_cons (pv 2) (pa_cons pe_int pa_nil))) pa_nil)) (pg_name (i := 10) sclaw.nd rfl (Or.inl rfl)) (pss_cons (ps_set (i := 11) sclaw.nd rfl (Or.inl rfl) (pe_call G__law_walked.ok (hr.mono (by decide)) rfl G__law_walked.mg G__law_walked.kp G__law_walked.bd .nil pass0 (pa_cons (pv 4) (pa_cons (pv 5) (pa_cons (pv 7) (pa_cons (pv 8) pa_nil))))))
  (pss_cons (ps_set (i := 12) sclaw.nd rfl (Or.inl rfl) (pe_call G__law_told.ok (hr.mono (by decide)) rfl G__law_told.mg G__law_told.kp G__law_told.bd .nil pass0 (pa_cons (pv 2) (pa_cons (pv 6) (pa_cons (pv 7) (pa_cons (pv 8) pa_nil))))))
  (pss_cons (ps_if (pt_cmpR op_ne (pe_callB (call_reprD hg' hu66) (by rfl) T.b_repr (by decide +kernel) (pa_cons (pv 12) pa_nil)) (pe_callB (call_reprD hg' hu66) (by rfl) T.b_repr (by decide +kernel) (pa_cons (pv 11) pa_nil)) (nomark _)) (pss_one (ps_ret pe_bl)) pss_nil)
  (pss_cons (ps_if (PW.pt (pw_and (pt_cmpR op_eq (pe_ix ix_tup (pv 11) pe_int (fun _ _ => rfl)) pe_str (nomark _)) (pw_and1 (pt_cmpR (op_neD hr.units) (pe_call G_shown.ok (hr.mono (by decide)) rfl G_shown.mg G_shown.kp G_shown.bd .nil pass0 (pa_cons (pv 6) (pa_cons (pv 7) (pa_cons (pe_op op_catT (pe_callTy call_tuple_of (by rfl) T.b_tuple (by decide +kernel) (pa_cons (pv 8) pa_nil)) (pe_tup (pa_cons pe_int (pa_cons pe_int (pa_cons pe_int (pa_cons pe_int pa_nil)))))) pa_nil)))) (pv 11) (nomark _))))) (pss_one (ps_ret pe_bl)) pss_nil)
  (pss_one (ps_expr (pe_bm PySem.F.plainAttrs_list PySem.F.slot_list_append PySem.F.type_list_append mt_append (pv 8) (pa_cons (pe_ifExp (pt_cmpR op_lt (pv 9) pe_int (nomark _)) (pv 9) (pe_call G__law_take.ok (hr.mono (by decide)) rfl G__law_take.mg G__law_take.kp G__law_take.bd .nil pass0 (pa_cons (pv 2) (pa_cons pe_int pa_nil)))) pa_nil)))))))))
  (pss_one (ps_if (pt_cmpR op_ne (pe_callB (call_reprD hg' hu66) (by rfl) T.b_repr (by decide +kernel) (pa_cons (pe_call G__law_told.ok (hr.mono (by decide)) rfl G__law_told.mg G__law_told.kp G__law_told.bd .nil pass0 (pa_cons (pv 2) (pa_cons (pv 6) (pa_cons (pv 7) (pa_cons (pv 8) pa_nil))))) pa_nil)) (pe_callB (call_reprD hg' hu66) (by rfl) T.b_repr (by decide +kernel) (pa_cons (pe_call G__law_walked.ok (hr.mono (by decide)) rfl G__law_walked.mg G__law_walked.kp G__law_walked.bd .nil pass0 (pa_cons (pv 4) (pa_cons (pv 5) (pa_cons (pv 7) (pa_cons (pv 8) pa_nil))))) pa_nil)) (nomark _)) (pss_one (ps_ret pe_bl)) pss_nil)))))
  (pss_cons (ps_set (i := 13) sclaw.nd rfl (Or.inl rfl) (pe_lst (pa_cons (pe_call G_shown.ok (hr.mono (by decide)) rfl G_shown.mg G_shown.kp G_shown.bd .nil pass0 (pa_cons (pv 6) (pa_cons pe_str (pa_cons (pe_tup pa_nil) pa_nil)))) (pa_cons (pe_call G_shown.ok (hr.mono (by decide)) rfl G_shown.mg G_shown.kp G_shown.bd .nil pass0 (pa_cons (pv 6) (pa_cons pe_str (pa_cons (pe_tup pa_nil) pa_nil)))) (pa_cons (pe_call G_shown.ok (hr.mono (by decide)) rfl G_shown.mg G_shown.kp G_shown.bd .nil pass0 (pa_cons (pv 6) (pa_cons pe_str (pa_cons (pe_tup pa_nil) pa_nil)))) pa_nil)))))
  (pss_one (ps_if (pt_cmpR (op_neD hr.units) (pv 13) (pe_lst (pa_cons (pe_tup (pa_cons pe_str (pa_cons (pe_ix ix_tup (pe_ix ix_list (pv 4) pe_int (fun _ _ => rfl)) pe_int (fun _ _ => rfl)) pa_nil))) (pa_cons (pe_tup (pa_cons pe_str (pa_cons (pe_ix ix_tup (pe_ix ix_list (pv 4) pe_int (fun _ _ => rfl)) pe_int (fun _ _ => rfl)) pa_nil))) (pa_cons (pe_tup (pa_cons pe_str (pa_cons (pe_ix ix_tup (pe_ix ix_list (pv 5) pe_int (fun _ _ => rfl)) pe_int (fun _ _ => rfl)) pa_nil))) pa_nil)))) (nomark _)) (pss_one (ps_ret pe_bl)) pss_nil))))))))))
  (pss_one (ps_ret pe_bl))), ?_⟩
    refine ⟨_, rfl, a, _, rfl, .inl hS, _, _, rfl, _, _, rfl, _, rfl, by split <;> (try split) <;> omega, by split <;> (try split) <;> omega,
      for_range (lo := 0) (n := _) (fun i σ' H' => ∃ v1 v2 v3 v4 v5 v6 v7 v8 v9 v10 v11 v12 v13 : Option V, σ' = [some (.ref a), v1, v2, v3, v4, v5, v6, v7, v8, v9, v10, v11, v12, v13] ∧ Same H H')
      ⟨none, none, none, none, none, none, none, none, none, none, none, none, none, rfl, Same.refl _⟩ ?_ ?_⟩
    · rintro i σ' H2 hi ⟨v1, v2, v3, v4, v5, v6, v7, v8, v9, v10, v11, v12, v13, rfl, s2⟩
      have hi4 : i ≤ 4 := by
        have h2 : ∀ z : Int, z.toNat ≤ 4 → i < z.toNat → i ≤ 4 := fun z h h' => by omega
        refine h2 _ ?_ hi
        split <;> (try split) <;> omega
      refine ⟨_, rfl, _, rfl, a, ns, i, by rw [Int.zero_add]; rfl, s2.seq hS, by omega, hlen, fun H3 p hp s3 hB3 => ?_⟩
      have hpH : H p = none := s2.free hp
      have s13 : Same H H3 := s2.trans s3
      -- the turns
      refine ⟨5, rfl, by decide, by decide, for_range (lo := 0) (n := 5) (fun t σ' H' => ∃ v3 v4 v5 v6 v7 v8 v9 v10 v11 v12 v13 : Option V, σ' = [some (.ref a), some (.int (0 + (i : Int))), some (.ref p), v3, v4, v5, v6, v7, v8, v9, v10, v11, v12, v13] ∧ Same H H' ∧ Bag H' p (1000 * t))
        ⟨v3, v4, v5, v6, v7, v8, v9, v10, v11, v12, v13, rfl, s13, hB3⟩ ?_ ?_⟩
      · rintro t σ' H4 ht ⟨v3, v4, v5, v6, v7, v8, v9, v10, v11, v12, v13, rfl, s4, hB4⟩
        refine ⟨_, rfl, _, rfl, p, _, 5, rfl, hB4, by omega, by decide, by decide, fun H5 d5 d50 d51 hB5 b5 => ?_⟩
        obtain ⟨m1, rfl⟩ : ∃ m : Nat, d5 = (m : Int) := ⟨d5.toNat, by omega⟩
        refine ⟨_, _, rfl, rfl, p, _, 2 + m1, by rw [Int.natCast_add]; rfl, hB5, by omega, by omega, by omega, fun H6 q1 xs hs hB6 b6 hq1 eq1 hR1 hl1 hok1 => ?_⟩
        refine ⟨_, rfl, _, rfl, p, _, 6, rfl, hB6, by omega, by decide, by decide, fun H7 d7 d70 d71 hB7 b7 => ?_⟩
        obtain ⟨m2, rfl⟩ : ∃ m : Nat, d7 = (m : Int) := ⟨d7.toNat, by omega⟩
        refine ⟨_, _, rfl, rfl, p, _, 1 + m2, by rw [Int.natCast_add]; rfl, hB7, by omega, by omega, by omega, fun H8 q2 ys ss hB8 b8 hq2 eq2 hR2 hl2 hok2 => ?_⟩
        have nq1 : q1 ≠ p := by
          obtain ⟨g, b, c, e, _⟩ := hB5
          exact Ne.symm (ne_of_none e hq1)
        have nq2 : q2 ≠ p := by
          obtain ⟨g, b, c, e, _⟩ := hB7
          exact Ne.symm (ne_of_none e hq2)
        have b68 := b7.trans b8
        have eq1' : H8 q1 = some (.lst xs) := b68 _ _ eq1 nq1
        have hR1' : RowsV H8 xs hs := hR1.but b68 hB6.no
        refine ⟨_, _, rfl, ?_⟩
        refine ⟨_, rfl, _, rfl, fun e dx he hdx ne => ?_⟩
        generalize eh : upd (upd H8 dx _) e _ = H9
        have s9 : Same H8 H9 := by rw [← eh]; exact (Sb.Same.upd hdx).trans (Sb.Same.upd (by rw [upd_ne (Ne.symm ne)]; exact he))
        have ee : H9 e = some (.ins D dx []) := by rw [← eh]; exact upd_same
        refine ⟨e, q1, q2, dx, xs, ys, hs, ss, rfl, ee, s9 _ _ eq1', hR1'.same s9, s9 _ _ eq2, hR2.same s9, fun (u v : V) (z : endFault hs ss = some (u, v)) => absurd z (by rw [fault_none hok1 hok2]; intro q; cases q), fun _ H10 hE b10 => ⟨rfl, ?_⟩⟩
        have c10 : Same H8 H10 := fun b o z => b10 _ _ (s9 _ _ z) (ne_of_none z he)
        refine ⟨(by show 3 ≤ sizeLine; decide), fun nl hnl => ?_⟩
        generalize eh11 : upd H10 nl _ = H11
        have s11 : Same H10 H11 := by rw [← eh11]; exact Sb.Same.upd hnl
        have en : H11 nl = some (.lst [.str "right", .str "wrong", .str "sender"]) := by rw [← eh11]; exact upd_same
        have c11 : Same H8 H11 := c10.trans s11
        have hB11 := hB8.same c11
        have npe : p ≠ e := by
          obtain ⟨g, b, c, z, _⟩ := hB8
          exact ne_of_none z he
        have npn : nl ≠ p := by
          obtain ⟨g, b, c, z, _⟩ := hB8.same c10
          exact Ne.symm (ne_of_none z hnl)
        have fE : ∀ {H' : Hp}, But p H11 H' → EndAt D H' e hs ss := fun b => (hE.same s11).but b hB11 (Ne.symm npe)
        have f1 : ∀ {H' : Hp}, But p H11 H' → H' q1 = some (.lst xs) ∧ RowsV H' xs hs := fun b => ⟨b _ _ (c11 _ _ eq1') nq1, (hR1'.same c11).but b hB11.no⟩
        have f2 : ∀ {H' : Hp}, But p H11 H' → H' q2 = some (.lst ys) ∧ RowsV H' ys ss := fun b => ⟨b _ _ (c11 _ _ eq2) nq2, (hR2.same c11).but b hB11.no⟩
        refine ⟨nl, rfl, ⟨_, SqL.of en⟩, for_list (K := K) (a := nl) (xs := [.str "right", .str "wrong", .str "sender"]) (fun j σ' H' => ∃ v7 v8 v9 v10 v11 v12 v13 : Option V, σ' = [some (.ref a), some (.int (0 + (i : Int))), some (.ref p), some (.int (0 + (t : Int))), some (.ref q1), some (.ref q2), some (.ref e), v7, v8, v9, v10, v11, v12, v13] ∧ But p H11 H' ∧ Bag H' p (1000 * t + 100 + 100 * j))
          ⟨v7, v8, v9, v10, v11, v12, v13, rfl, But.refl, hB11.mono (by omega)⟩ (fun _ _ _ _ ⟨_, _, _, _, _, _, _, _, b, _⟩ => SqL.of (b _ _ en npn)) ?_ ?_⟩
        · rintro j y σ' H12 hy ⟨v7, v8, v9, v10, v11, v12, v13, rfl, b12, hB12⟩
          obtain ⟨st, hst, rfl⟩ : ∃ st, isStart st ∧ y = .str st := by
            match j, hy with
            | 0, hy => exact ⟨"right", .inl rfl, (Option.some.inj hy).symm⟩
            | 1, hy => exact ⟨"wrong", .inr (.inl rfl), (Option.some.inj hy).symm⟩
            | 2, hy => exact ⟨"sender", .inr (.inr rfl), (Option.some.inj hy).symm⟩
            | j + 3, hy => simp at hy
          have hj3 : j < 3 := by
            have := (List.getElem?_eq_some_iff.mp hy).1
            simpa using this
          obtain ⟨ws, hws, hok, hbeg⟩ : ∃ ws, isWords ws ∧ (∀ r, r ∈ (beginOf hs ss st).1 → r.Ok (beginOf hs ss st).1.length ws) ∧ (beginOf hs ss st).2 < (beginOf hs ss st).1.length := begin_ok hok1 hok2 hst
          refine ⟨(by show 0 ≤ sizeLine; decide), fun sb hsb => ?_⟩
          have nsb : sb ≠ p := by
            obtain ⟨g, b, c, z, _⟩ := hB12
            exact Ne.symm (ne_of_none z hsb)
          have hsb11 : H11 sb = none := free_but b12 hB12 hsb
          have u12 := Sb.Same.upd (o := .lst []) hsb
          refine ⟨_, rfl, p, _, 3, rfl, hB12.same u12, by omega, by decide, by decide, fun H13 d d0 d1 hB13 b13 => ⟨_, _, rfl, ?_⟩⟩
          have c13 : But p H11 H13 := (b12.trans (But.same u12)).trans b13
          have esb : H13 sb = some (.lst (natsV [])) := b13 _ _ upd_same nsb
          refine ⟨_, rfl, p, _, 15, rfl, hB13, by omega, by decide, by decide, fun H14 n n0 n1 hB14 b14 => ⟨n, rfl, by omega, by omega, for_range (lo := 0) (n := n.toNat) (fun x σ' H' => ∃ (bs : List Nat) (v10 v11 v12 v13 : Option V), σ' = [some (.ref a), some (.int (0 + (i : Int))), some (.ref p), some (.int (0 + (t : Int))), some (.ref q1), some (.ref q2), some (.ref e), some (.str st), some (.ref sb), some (.int d), v10, v11, v12, v13] ∧ But p H11 H' ∧ H' sb = some (.lst (natsV bs)) ∧ (∀ x, x ∈ bs → x = 0 ∨ x = 1) ∧ bs.length = x ∧ Bag H' p (1000 * t + 100 + 100 * j + 2 + 2 * x))
            ⟨[], v10, v11, v12, v13, rfl, c13.trans b14, b14 _ _ esb nsb, fun x z => by simp at z, rfl, hB14⟩ ?_ ?_⟩⟩
          · rintro x σ' H15 hx ⟨bs, v10, v11, v12, v13, rfl, b15, esb, hbit, hbl, hB15⟩
            have hx15 : x < 15 := by omega
            obtain ⟨z1, z2⟩ := f1 b15
            obtain ⟨z3, z4⟩ := f2 b15
            refine ⟨_, rfl, _, rfl, _, rfl, _, rfl, q1, q2, sb, st, xs, ys, hs, ss, ws, bs, rfl, hst, z1, z2, z3, z4, esb, hbit, hok, hbeg, fun H16 t1 s16 ht1 et1 => ?_⟩
            have b16 : But p H11 H16 := b15.trans (But.same s16)
            refine ⟨_, rfl, _, rfl, _, rfl, _, rfl, p, e, sb, _, st, hs, ss, ws, bs, rfl, hB15.same s16, by omega, npe, Ne.symm nsb, fE b16, s16 _ _ esb, hbit, by omega, hok, hbeg, fun H17 t2 b17 hB17 ht2 et2 => ?_⟩
            have c17 : But p H11 H17 := b16.trans b17
            have nt1 : t1 ≠ p := by
              obtain ⟨g, b, c, z, _⟩ := hB15
              exact Ne.symm (ne_of_none z ht1)
            have et1' := b17 _ _ et1 nt1
            have esb17 := b17 _ _ (s16 _ _ esb) nsb
            have hw := walk_ok hok bs (p := .num (beginOf hs ss st).2) hbeg
            obtain ⟨g1, g2, g3⟩ := seen_fine hws hok hw
            refine ⟨_, rfl, _, _, rfl, seen_dp et2, g1, g2, g3, _, rfl, _, _, rfl, seen_dp et1', g1, g2, g3, rfl, false, congrArg (fun b => V.bl (!b)) (decide_eq_true rfl), iteF ?_⟩
            have app : ∀ {σ1 : L2.St} {H18 : Hp} {D0 : Ends}, (∀ σ' H', (∃ (bs : List Nat) (v10 v11 v12 v13 : Option V), σ' = [some (.ref a), some (.int (0 + (i : Int))), some (.ref p), some (.int (0 + (t : Int))), some (.ref q1), some (.ref q2), some (.ref e), some (.str st), some (.ref sb), some (.int d), v10, v11, v12, v13] ∧ But p H11 H' ∧ H' sb = some (.lst (natsV bs)) ∧ (∀ x, x ∈ bs → x = 0 ∨ x = 1) ∧ bs.length = x + 1 ∧ Bag H' p (1000 * t + 100 + 100 * j + 2 + 2 * (x + 1))) → D0.nx σ' H') → σ1 = [some (.ref a), some (.int (0 + (i : Int))), some (.ref p), some (.int (0 + (t : Int))), some (.ref q1), some (.ref q2), some (.ref e), some (.str st), some (.ref sb), some (.int d), some (.int (0 + (x : Int))), some (.ref t1), some (.ref t2), v13] → But p H17 H18 → Bag H18 p (1000 * t + 100 + 100 * j + 2 + 2 * x + 1) → H18 sb = some (.lst (natsV bs)) →
                tDrop (tBM K "list" rAppend (tVar 8) (tCons (tIf (tTest (tOp (rI0 fun i j => V.bl (decide (i < j))) (tVar 9) (tC (V.int 2)))) (tVar 9) (tCall spTake [] E0 (tCons (tVar 2) (tCons (tC (V.int 2)) tNil)))) tNil))
                  D0 σ1 H18 := by
              rintro σ1 H18 D0 hD0 rfl b18 hB18 e18
              have c18 : But p H11 H18 := c17.trans b18
              have lit : ∀ (n : Nat) (H19 : Hp), (n = 0 ∨ n = 1) → But p H11 H19 → Bag H19 p (1000 * t + 100 + 100 * j + 2 + 2 * (x + 1)) → H19 sb = some (.lst (natsV bs)) → ∃ l xs y, V.ref sb = .ref l ∧ [V.int (n : Int)] = [y] ∧ H19 l = some (.lst xs) ∧ xs.length < sizeLine ∧ ∃ (bs' : List Nat) (v10 v11 v12 v13' : Option V), [some (V.ref a), some (.int (0 + (i : Int))), some (.ref p), some (.int (0 + (t : Int))), some (.ref q1), some (.ref q2), some (.ref e), some (.str st), some (.ref sb), some (.int d), some (.int (0 + (x : Int))), some (.ref t1), some (.ref t2), v13] = [some (.ref a), some (.int (0 + (i : Int))), some (.ref p), some (.int (0 + (t : Int))), some (.ref q1), some (.ref q2), some (.ref e), some (.str st), some (.ref sb), some (.int d), v10, v11, v12, v13'] ∧ But p H11 (upd H19 l (.lst (xs ++ [y]))) ∧ (upd H19 l (.lst (xs ++ [y]))) sb = some (.lst (natsV bs')) ∧ (∀ x, x ∈ bs' → x = 0 ∨ x = 1) ∧ bs'.length = x + 1 ∧ Bag (upd H19 l (.lst (xs ++ [y]))) p (1000 * t + 100 + 100 * j + 2 + 2 * (x + 1)) := by
                intro n H19 hn b19 hB19 e19
                refine ⟨sb, _, _, rfl, rfl, e19, Nat.lt_of_le_of_lt (by rw [natsV_len]; omega : (natsV bs).length ≤ 1000) (by decide), bs ++ [n], _, _, _, _, rfl, fun c o ho hc => ?_, by rw [upd_same, natsV_snoc], fun y hy => ?_, by simp [hbl], ?_⟩
                · rw [upd_ne (ne_of_none ho hsb11)]
                  exact b19 _ _ ho hc
                · rcases List.mem_append.mp hy with z | z
                  · exact hbit y z
                  · simp at z
                    rw [z]
                    exact hn
                · obtain ⟨g, b, c, z, rest⟩ := hB19
                  exact ⟨g, b, c, by rw [upd_ne (Ne.symm nsb)]; exact z, rest⟩
              refine ⟨_, rfl, ?_, ?_⟩
              · exact .inl ⟨rfl, _, SqL.of e18⟩
              obtain ⟨dn, rfl⟩ : ∃ m : Nat, d = (m : Int) := ⟨d.toNat, by omega⟩
              refine ⟨_, rfl, _, _, rfl, rfl, _, rfl, ite2 (fun hc => ?_) (fun hc => ?_)⟩
              · have hc' : (dn : Int) < 2 := of_decide_eq_true hc
                exact ⟨_, rfl, let ⟨l, xs, y, z1, z2, z3, z4, z5⟩ := lit dn H18 (by omega) c18 (hB18.mono (by omega)) e18; ⟨l, xs, y, z1, z2, z3, z4, hD0 _ _ z5⟩⟩
              · refine ⟨_, rfl, p, _, 2, rfl, hB18, by omega, by decide, by decide, fun H19 d9 d90 d91 hB19 b19 => ?_⟩
                obtain ⟨n9, rfl⟩ : ∃ m : Nat, d9 = (m : Int) := ⟨d9.toNat, by omega⟩
                exact let ⟨l, xs, y, z1, z2, z3, z4, z5⟩ := lit n9 H19 (by omega) (c18.trans b19) (hB19.mono (by omega)) (b19 _ _ e18 nsb); ⟨l, xs, y, z1, z2, z3, z4, hD0 _ _ z5⟩
            generalize ew : walkPl (beginOf hs ss st).1 (.num (beginOf hs ss st).2) bs = wp at *
            cases wp with
            | num m =>
              refine ⟨_, rfl, t1, _, 0, _, rfl, rfl, SqT.of et1', rfl, rfl, false, rfl, iteF (iteF ?_)⟩
              exact app (fun _ _ z => z) rfl But.refl hB17 esb17
            | word z =>
              have hbs : bs ≠ [] := fun z => by rw [z] at ew; cases ew
              refine ⟨_, rfl, t1, _, 0, _, rfl, rfl, SqT.of et1', rfl, rfl, true, rfl, iteT ?_⟩
              refine ⟨_, rfl, _, rfl, _, rfl, sb, natsV bs, rfl, .inl ⟨SqL.of esb17, fun l1 hl1 => ⟨(by show 4 ≤ sizeLine; decide), fun l2 hl2 => ?_⟩⟩⟩
              have w1 : Same H17 (upd H17 l1 (.tup (natsV bs))) := Sb.Same.upd hl1
              have w2 : Same (upd H17 l1 (.tup (natsV bs))) (upd (upd H17 l1 (.tup (natsV bs))) l2 (.tup [.int 0, .int 1, .int 1, .int 0])) := Sb.Same.upd hl2
              refine ⟨l1, l2, natsV bs, natsV [0, 1, 1, 0], rfl, rfl, SqT.of (w2 _ _ upd_same), SqT.of upd_same, natsV_ne hbs, Nat.le_trans (by rw [natsV_len, natsV_len]; show bs.length + 4 ≤ 1000; omega) (by decide), fun z => absurd z (natsV_ne (by decide)), fun _ l3 hl3 => ?_⟩
              rw [natsV_app]
              have w3 := Sb.Same.upd (o := .tup (natsV (bs ++ [0, 1, 1, 0]))) hl3
              have w13 := (w1.trans w2).trans w3
              refine ⟨e, l3, st, hs, ss, ws, bs ++ [0, 1, 1, 0], rfl, (fE c17).same w13, .inr (SqT.of upd_same), fun y hy => ?_, by simp; omega, hok, hbeg, fun H18 t3 s18 ht3 et3 => ?_⟩
              · rcases List.mem_append.mp hy with z | z
                · exact hbit y z
                · simp at z
                  omega
              rw [walk_more ew] at et3
              have v18 := w13.trans s18
              refine ⟨_, rfl, _, _, seen_dp et3, seen_dp (v18 _ _ et1'), g2, g2, false, congrArg (fun b => V.bl (!b)) (SeqAt.eqv_refl _ (SeqAt.canLay_of_shaped g2)), iteF ?_⟩
              exact app (fun _ _ z => z) rfl (But.same v18) (hB17.same v18) (v18 _ _ esb17)
          · rintro σ' H15 ⟨bs, v10, v11, v12, v13, rfl, b15, esb, hbit, hbl, hB15⟩
            have hx15 : n.toNat ≤ 15 := by omega
            obtain ⟨z1, z2⟩ := f1 b15
            obtain ⟨z3, z4⟩ := f2 b15
            have hw := walk_ok hok bs (p := .num (beginOf hs ss st).2) hbeg
            obtain ⟨g1, g2, g3⟩ := seen_fine hws hok hw
            refine ⟨_, rfl, _, rfl, _, rfl, _, rfl, p, e, sb, _, st, hs, ss, ws, bs, rfl, hB15, by omega, npe, Ne.symm nsb, fE b15, esb, hbit, by omega, hok, hbeg, fun H16 t1 b16 hB16 ht1 et1 => ?_⟩
            have c16 : But p H11 H16 := b15.trans b16
            obtain ⟨y1, y2⟩ := f1 c16
            obtain ⟨y3, y4⟩ := f2 c16
            refine ⟨_, _, rfl, seen_dp et1, g1, g2, g3, ?_⟩
            refine ⟨_, rfl, _, rfl, _, rfl, _, rfl, q1, q2, sb, st, xs, ys, hs, ss, ws, bs, rfl, hst, y1, y2, y3, y4, b16 _ _ esb nsb, hbit, hok, hbeg, fun H17 t2 s17 ht2 et2 => ?_⟩
            refine ⟨_, _, rfl, seen_dp et2, g1, g2, g3, rfl, false, congrArg (fun b => V.bl (!b)) (decide_eq_true rfl), iteF ?_⟩
            exact ⟨_, _, _, _, _, _, _, rfl, c16.trans (But.same s17), (hB16.same s17).mono (by omega)⟩
        · rintro σ' H12 ⟨v7, v8, v9, v10, v11, v12, v13, rfl, b12, hB12⟩
          obtain ⟨ws1, hws1, hok1', hbeg1⟩ := begin_ok hok1 hok2 (show isStart "right" from .inl rfl)
          refine ⟨_, rfl, Nat.zero_le _, fun l1 hl1 => ⟨e, l1, "right", hs, ss, ws1, [], rfl, (fE b12).same (Sb.Same.upd hl1), .inr (SqT.of upd_same), fun x hx => by simp at hx, by decide, hok1', hbeg1, fun H13 t1 s13' _ et1 => ?_⟩⟩
          have s13 : Same H12 H13 := (Sb.Same.upd hl1).trans s13'
          obtain ⟨ws2, hws2, hok2', hbeg2⟩ := begin_ok hok1 hok2 (show isStart "wrong" from .inr (.inl rfl))
          refine ⟨_, rfl, Nat.zero_le _, fun l2 hl2 => ⟨e, l2, "wrong", hs, ss, ws2, [], rfl, (fE (b12.trans (But.same s13))).same (Sb.Same.upd hl2), .inr (SqT.of upd_same), fun x hx => by simp at hx, by decide, hok2', hbeg2, fun H14 t2 s14' _ et2 => ?_⟩⟩
          have s14 : Same H13 H14 := (Sb.Same.upd hl2).trans s14'
          obtain ⟨ws3, hws3, hok3', hbeg3⟩ := begin_ok hok1 hok2 (show isStart "sender" from .inr (.inr rfl))
          refine ⟨_, rfl, Nat.zero_le _, fun l3 hl3 => ⟨e, l3, "sender", hs, ss, ws3, [], rfl, (fE ((b12.trans (But.same s13)).trans (But.same s14))).same (Sb.Same.upd hl3), .inr (SqT.of upd_same), fun x hx => by simp at hx, by decide, hok3', hbeg3, fun H15 t3 s15' _ et3 => ?_⟩⟩
          have s15 : Same H14 H15 := (Sb.Same.upd hl3).trans s15'
          have c15 : But p H11 H15 := ((b12.trans (But.same s13)).trans (But.same s14)).trans (But.same s15)
          have et1' := s15 _ _ (s14 _ _ et1)
          have et2' := s15 _ _ et2
          obtain ⟨r0, hr0⟩ : ∃ r, hs[0]? = some r := ⟨_, List.getElem?_eq_getElem (by omega : 0 < hs.length)⟩
          obtain ⟨r1, hr1⟩ : ∃ r, hs[1]? = some r := ⟨_, List.getElem?_eq_getElem (by omega : 1 < hs.length)⟩
          obtain ⟨r2, hr2⟩ : ∃ r, ss[0]? = some r := ⟨_, List.getElem?_eq_getElem (by omega : 0 < ss.length)⟩
          have p0 : putOf hs 0 = r0.put := by unfold putOf; rw [hr0]; rfl
          have p1 : putOf hs 1 = r1.put := by unfold putOf; rw [hr1]; rfl
          have p2 : putOf ss 0 = r2.put := by unfold putOf; rw [hr2]; rfl
          have d1 : ∀ {H' : Hp}, Same H15 H' → Dp K H' (.ref t1) (.tuple [.str "put", .int (r0.put : Int)]) := fun z => by
            have q := seen_dp (K := K) (p := .num 0) (rs := hs) (z _ _ et1')
            rw [show seenD hs (.num 0) = .tuple [.str "put", .int (putOf hs 0 : Int)] from rfl, p0] at q
            exact q
          have d2 : ∀ {H' : Hp}, Same H15 H' → Dp K H' (.ref t2) (.tuple [.str "put", .int (r1.put : Int)]) := fun z => by
            have q := seen_dp (K := K) (p := .num 1) (rs := hs) (z _ _ et2')
            rw [show seenD hs (.num 1) = .tuple [.str "put", .int (putOf hs 1 : Int)] from rfl, p1] at q
            exact q
          have d3 : ∀ {H' : Hp}, Same H15 H' → Dp K H' (.ref t3) (.tuple [.str "put", .int (r2.put : Int)]) := fun z => by
            have q := seen_dp (K := K) (p := .num 0) (rs := ss) (z _ _ et3)
            rw [show seenD ss (.num 0) = .tuple [.str "put", .int (putOf ss 0 : Int)] from rfl, p2] at q
            exact q
          refine ⟨(by show 3 ≤ sizeLine; decide), fun fl hfl => ?_⟩
          generalize eh16 : upd H15 fl _ = H16
          have s16 : Same H15 H16 := by rw [← eh16]; exact Sb.Same.upd hfl
          have efl : H16 fl = some (.lst [.ref t1, .ref t2, .ref t3]) := by rw [← eh16]; exact upd_same
          obtain ⟨y1, y2⟩ := f1 (c15.trans (But.same s16))
          obtain ⟨y3, y4⟩ := f2 (c15.trans (But.same s16))
          obtain ⟨w0, hw0, ra0, rfl, hra0⟩ := y2.get' 0 r0 hr0
          obtain ⟨w1, hw1, ra1, rfl, hra1⟩ := y2.get' 1 r1 hr1
          obtain ⟨w2, hw2, ra2, rfl, hra2⟩ := y4.get' 0 r2 hr2
          refine ⟨_, rfl, _, rfl, q1, xs, 0, _, rfl, rfl, SqL.of y1, atI_nat hw0, ra0, _, 0, _, rfl, rfl, SqT.of hra0, rfl, (by show 2 ≤ sizeLine; decide), fun u1 hu1 => ?_⟩
          generalize eh17 : upd H16 u1 _ = H17
          have s17 : Same H16 H17 := by rw [← eh17]; exact Sb.Same.upd hu1
          have eu1 : H17 u1 = some (.tup [.str "put", .int (r0.put : Int)]) := by rw [← eh17]; exact upd_same
          refine ⟨_, rfl, q1, xs, 1, _, rfl, rfl, SqL.of (s17 _ _ y1), atI_nat hw1, ra1, _, 0, _, rfl, rfl, SqT.of (s17 _ _ hra1), rfl, (by show 2 ≤ sizeLine; decide), fun u2 hu2 => ?_⟩
          generalize eh18 : upd H17 u2 _ = H18
          have s18 : Same H17 H18 := by rw [← eh18]; exact Sb.Same.upd hu2
          have eu2 : H18 u2 = some (.tup [.str "put", .int (r1.put : Int)]) := by rw [← eh18]; exact upd_same
          have s1618 := s17.trans s18
          refine ⟨_, rfl, q2, ys, 0, _, rfl, rfl, SqL.of (s1618 _ _ y3), atI_nat hw2, ra2, _, 0, _, rfl, rfl, SqT.of (s1618 _ _ hra2), rfl, (by show 2 ≤ sizeLine; decide), fun u3 hu3 => ?_⟩
          generalize eh19 : upd H18 u3 _ = H19
          have s19 : Same H18 H19 := by rw [← eh19]; exact Sb.Same.upd hu3
          have eu3 : H19 u3 = some (.tup [.str "put", .int (r2.put : Int)]) := by rw [← eh19]; exact upd_same
          refine ⟨(by show 3 ≤ sizeLine; decide), fun ul hul => ?_⟩
          have s20 := Sb.Same.upd (o := .lst [.ref u1, .ref u2, .ref u3]) hul
          have s16f := (s1618.trans s19).trans s20
          have dt : ∀ {H' : Hp} {x : Addr} {n : Nat}, H' x = some (.tup [.str "put", .int (n : Int)]) → Dp K H' (.ref x) (.tuple [.str "put", .int (n : Int)]) := fun h => .tup (SqT.of h) (.cons (.str _) (.cons (.int _) .nil))
          have sh := firsts_shaped (r0.put : Int) (r1.put : Int) (r2.put : Int)
          refine ⟨_, _, .lst (SqL.of (s16f _ _ efl)) (.cons (d1 (s16.trans s16f)) (.cons (d2 (s16.trans s16f)) (.cons (d3 (s16.trans s16f)) .nil))), .lst (SqL.of upd_same) (.cons (dt ((s18.trans (s19.trans s20)) _ _ eu1)) (.cons (dt ((s19.trans s20) _ _ eu2)) (.cons (dt (s20 _ _ eu3)) .nil))), sh, sh, false, congrArg (fun b => V.bl (!b)) (SeqAt.eqv_refl _ (SeqAt.canLay_of_shaped sh)), iteF ?_⟩
          have c20 : But p H11 _ := c15.trans (But.same (s16.trans s16f))
          refine ⟨_, _, _, _, _, _, _, _, _, _, _, rfl, fun b o z => ?_, (hB12.same (((s13.trans s14).trans s15).trans (s16.trans s16f))).mono (by simp; omega)⟩
          exact ((((((b5.trans b6).trans b7).trans b8).trans (But.same c11)).trans c20) _ _ (s4 _ _ z) (ne_of_none z hpH))
      · rintro σ' H4 ⟨v3, v4, v5, v6, v7, v8, v9, v10, v11, v12, v13, rfl, s4, hB4⟩
        exact ⟨_, _, _, _, _, _, _, _, _, _, _, _, _, rfl, s4⟩
    · rintro σ' H2 ⟨v1, v2, v3, v4, v5, v6, v7, v8, v9, v10, v11, v12, v13, rfl, s2⟩
      exact k _

end K09

set_option Elab.async false
set_option linter.all false
set_option maxRecDepth 100000
set_option maxHeartbeats 4000000
namespace K09
open PySem L2 Sb
theorem all_mk {l : PySem.W.OpenLaw} {w : World} {K : PySem.W.Frag} {h : Heap} {mg : Str → Option Value} {fa : Addr} (X : K.In h) (G : h.Ns mainGlobals mg) (hfa : mg "law" = some (.ref fa))
    {f1 : Addr} {oc1 kV1 dc1 pm1 cd1 ct1 : Value} {od1 an1 : Option Addr} {sl1 : Array (Option Value)}
    {f2 : Addr} {oc2 kV2 dc2 pm2 cd2 ct2 : Value} {od2 an2 : Option Addr} {sl2 : Array (Option Value)}
    {f3 : Addr} {oc3 kV3 dc3 pm3 cd3 ct3 : Value} {od3 an3 : Option Addr} {sl3 : Array (Option Value)}
    {f4 : Addr} {oc4 kV4 dc4 pm4 cd4 ct4 : Value} {od4 an4 : Option Addr} {sl4 : Array (Option Value)}
    {f5 : Addr} {oc5 kV5 dc5 pm5 cd5 ct5 : Value} {od5 an5 : Option Addr} {sl5 : Array (Option Value)}
    {f6 : Addr} {oc6 kV6 dc6 pm6 cd6 ct6 : Value} {od6 an6 : Option Addr} {sl6 : Array (Option Value)}
    {f7 : Addr} {oc7 kV7 dc7 pm7 cd7 ct7 : Value} {od7 an7 : Option Addr} {sl7 : Array (Option Value)}
    {f8 : Addr} {oc8 kV8 dc8 pm8 cd8 ct8 : Value} {od8 an8 : Option Addr} {sl8 : Array (Option Value)}
    {f9 : Addr} {oc9 kV9 dc9 pm9 cd9 ct9 : Value} {od9 an9 : Option Addr} {sl9 : Array (Option Value)}
    {p9 : Addr} {rs9 : List Value}
    {f10 : Addr} {oc10 kV10 dc10 pm10 cd10 ct10 : Value} {od10 an10 : Option Addr} {sl10 : Array (Option Value)}
    {p10 : Addr} {rs10 : List Value}
    {f11 : Addr} {oc11 kV11 dc11 pm11 cd11 ct11 : Value} {od11 an11 : Option Addr} {sl11 : Array (Option Value)}
    {f12 : Addr} {oc12 kV12 dc12 pm12 cd12 ct12 : Value} {od12 an12 : Option Addr} {sl12 : Array (Option Value)}
    {f13 : Addr} {oc13 kV13 dc13 pm13 cd13 ct13 : Value} {od13 an13 : Option Addr} {sl13 : Array (Option Value)}
    {f14 : Addr} {oc14 kV14 dc14 pm14 cd14 ct14 : Value} {od14 an14 : Option Addr} {sl14 : Array (Option Value)}
    {f15 : Addr} {oc15 kV15 dc15 pm15 cd15 ct15 : Value} {od15 an15 : Option Addr} {sl15 : Array (Option Value)}
    {f16 : Addr} {oc16 kV16 dc16 pm16 cd16 ct16 : Value} {od16 an16 : Option Addr} {sl16 : Array (Option Value)}
    {f17 : Addr} {oc17 kV17 dc17 pm17 cd17 ct17 : Value} {od17 an17 : Option Addr} {sl17 : Array (Option Value)}
    {f18 : Addr} {oc18 kV18 dc18 pm18 cd18 ct18 : Value} {od18 an18 : Option Addr} {sl18 : Array (Option Value)}
    {f19 : Addr} {oc19 kV19 dc19 pm19 cd19 ct19 : Value} {od19 an19 : Option Addr} {sl19 : Array (Option Value)}
    {f20 : Addr} {oc20 kV20 dc20 pm20 cd20 ct20 : Value} {od20 an20 : Option Addr} {sl20 : Array (Option Value)}
    {f21 : Addr} {oc21 kV21 dc21 pm21 cd21 ct21 : Value} {od21 an21 : Option Addr} {sl21 : Array (Option Value)}
    {f22 : Addr} {oc22 kV22 dc22 pm22 cd22 ct22 : Value} {od22 an22 : Option Addr} {sl22 : Array (Option Value)}
    {f23 : Addr} {oc23 kV23 dc23 pm23 cd23 ct23 : Value} {od23 an23 : Option Addr} {sl23 : Array (Option Value)}
    {CBadEnd CEnd hA sA : Addr} {nm q : Str} {N : Addr} {bs : List Value} {sn : List Str} {sub : List Value} {ab : Bool} {col : Option Bool} {dd : Option Addr} {m0 m1 m2 m3 m5 : Option Value} {mt : Tok}
    {hd sd : Option Addr} {ht1 ht2 st1 st2 : Tok} {hn sn' : Nat} {hsl ssl : Array (Option Value)} 
    (a1 : PySem.W.findIn K (.ref CBadEnd) "__init__" = some (some (.ref f1))) (i1 : PySem.W.isFn K (.ref f1) = true)
    (l1 : K.lookup f1 = some ⟨oc1, od1, .func (PySem.W.fnOf "__init__" "BadEnd.__init__" (defArgs sBadEnd_init) (defBody sBadEnd_init) (defScope sBadEnd_init) .none kV1 dc1 pm1 an1 cd1 ct1), sl1⟩) (c1 : PySem.W.codeIn K cd1 "BadEnd.__init__" = true) (k1 : PySem.W.keepIn K (.ref f1) = true)
    (a2 : PySem.W.nsIn K mainGlobals "is_number" = some (some (.ref f2)))
    (l2 : K.lookup f2 = some ⟨oc2, od2, .func (PySem.W.fnOf "is_number" "is_number" (defArgs sis_number) (defBody sis_number) (defScope sis_number) .none kV2 dc2 pm2 an2 cd2 ct2), sl2⟩) (c2 : PySem.W.codeIn K cd2 "is_number" = true) (k2 : PySem.W.keepIn K (.ref f2) = true)
    (a3 : PySem.W.nsIn K mainGlobals "is_follower" = some (some (.ref f3)))
    (l3 : K.lookup f3 = some ⟨oc3, od3, .func (PySem.W.fnOf "is_follower" "is_follower" (defArgs sis_follower) (defBody sis_follower) (defScope sis_follower) .none kV3 dc3 pm3 an3 cd3 ct3), sl3⟩) (c3 : PySem.W.codeIn K cd3 "is_follower" = true) (k3 : PySem.W.keepIn K (.ref f3) = true)
    (a4 : PySem.W.nsIn K mainGlobals "is_row" = some (some (.ref f4)))
    (l4 : K.lookup f4 = some ⟨oc4, od4, .func (PySem.W.fnOf "is_row" "is_row" (defArgs sis_row) (defBody sis_row) (defScope sis_row) .none kV4 dc4 pm4 an4 cd4 ct4), sl4⟩) (c4 : PySem.W.codeIn K cd4 "is_row" = true) (k4 : PySem.W.keepIn K (.ref f4) = true)
    (a5 : PySem.W.nsIn K mainGlobals "reached" = some (some (.ref f5)))
    (l5 : K.lookup f5 = some ⟨oc5, od5, .func (PySem.W.fnOf "reached" "reached" (defArgs sreached) (defBody sreached) (defScope sreached) .none kV5 dc5 pm5 an5 cd5 ct5), sl5⟩) (c5 : PySem.W.codeIn K cd5 "reached" = true) (k5 : PySem.W.keepIn K (.ref f5) = true)
    (a6 : PySem.W.nsIn K mainGlobals "check_machine" = some (some (.ref f6)))
    (l6 : K.lookup f6 = some ⟨oc6, od6, .func (PySem.W.fnOf "check_machine" "check_machine" (defArgs scheck_machine) (defBody scheck_machine) (defScope scheck_machine) .none kV6 dc6 pm6 an6 cd6 ct6), sl6⟩) (c6 : PySem.W.codeIn K cd6 "check_machine" = true) (k6 : PySem.W.keepIn K (.ref f6) = true)
    (a7 : PySem.W.nsIn K mainGlobals "numbered_rows" = some (some (.ref f7)))
    (l7 : K.lookup f7 = some ⟨oc7, od7, .func (PySem.W.fnOf "numbered_rows" "numbered_rows" (defArgs snumbered_rows) (defBody snumbered_rows) (defScope snumbered_rows) .none kV7 dc7 pm7 an7 cd7 ct7), sl7⟩) (c7 : PySem.W.codeIn K cd7 "numbered_rows" = true) (k7 : PySem.W.keepIn K (.ref f7) = true)
    (a8 : PySem.W.findIn K (.ref CEnd) "__init__" = some (some (.ref f8))) (i8 : PySem.W.isFn K (.ref f8) = true)
    (l8 : K.lookup f8 = some ⟨oc8, od8, .func (PySem.W.fnOf "__init__" "End.__init__" (defArgs sEnd_init) (defBody sEnd_init) (defScope sEnd_init) .none kV8 dc8 pm8 an8 cd8 ct8), sl8⟩) (c8 : PySem.W.codeIn K cd8 "End.__init__" = true) (k8 : PySem.W.keepIn K (.ref f8) = true)
    (a9 : PySem.W.findIn K (.ref CEnd) "hearer" = some (some (.ref p9))) (g9 : PySem.W.specialIn K (.ref p9) "__get__" = some (some (.builtin "property.__get__"))) (t9 : PySem.W.takesIn K (.ref p9) = some true) (r9 : PySem.W.recIn K p9 "property" = some (.ref f9 :: rs9))
    (l9 : K.lookup f9 = some ⟨oc9, od9, .func (PySem.W.fnOf "hearer" "End.hearer" (defArgs sEnd_hearer) (defBody sEnd_hearer) (defScope sEnd_hearer) .none kV9 dc9 pm9 an9 cd9 ct9), sl9⟩) (c9 : PySem.W.codeIn K cd9 "End.hearer" = true) (k9 : PySem.W.keepIn K (.ref f9) = true)
    (a10 : PySem.W.findIn K (.ref CEnd) "sender" = some (some (.ref p10))) (g10 : PySem.W.specialIn K (.ref p10) "__get__" = some (some (.builtin "property.__get__"))) (t10 : PySem.W.takesIn K (.ref p10) = some true) (r10 : PySem.W.recIn K p10 "property" = some (.ref f10 :: rs10))
    (l10 : K.lookup f10 = some ⟨oc10, od10, .func (PySem.W.fnOf "sender" "End.sender" (defArgs sEnd_sender) (defBody sEnd_sender) (defScope sEnd_sender) .none kV10 dc10 pm10 an10 cd10 ct10), sl10⟩) (c10 : PySem.W.codeIn K cd10 "End.sender" = true) (k10 : PySem.W.keepIn K (.ref f10) = true)
    (a11 : PySem.W.nsIn K mainGlobals "beginning" = some (some (.ref f11)))
    (l11 : K.lookup f11 = some ⟨oc11, od11, .func (PySem.W.fnOf "beginning" "beginning" (defArgs sbeginning) (defBody sbeginning) (defScope sbeginning) .none kV11 dc11 pm11 an11 cd11 ct11), sl11⟩) (c11 : PySem.W.codeIn K cd11 "beginning" = true) (k11 : PySem.W.keepIn K (.ref f11) = true)
    (a12 : PySem.W.nsIn K mainGlobals "seen_at" = some (some (.ref f12)))
    (l12 : K.lookup f12 = some ⟨oc12, od12, .func (PySem.W.fnOf "seen_at" "seen_at" (defArgs sseen_at) (defBody sseen_at) (defScope sseen_at) .none kV12 dc12 pm12 an12 cd12 ct12), sl12⟩) (c12 : PySem.W.codeIn K cd12 "seen_at" = true) (k12 : PySem.W.keepIn K (.ref f12) = true)
    (a13 : PySem.W.nsIn K mainGlobals "shown" = some (some (.ref f13)))
    (l13 : K.lookup f13 = some ⟨oc13, od13, .func (PySem.W.fnOf "shown" "shown" (defArgs sshown) (defBody sshown) (defScope sshown) .none kV13 dc13 pm13 an13 cd13 ct13), sl13⟩) (c13 : PySem.W.codeIn K cd13 "shown" = true) (k13 : PySem.W.keepIn K (.ref f13) = true)
    (a14 : PySem.W.nsIn K mainGlobals "_law_bag" = some (some (.ref f14)))
    (l14 : K.lookup f14 = some ⟨oc14, od14, .func (PySem.W.fnOf "_law_bag" "_law_bag" (defArgs sL_bag) (defBody sL_bag) (defScope sL_bag) .none kV14 dc14 pm14 an14 cd14 ct14), sl14⟩) (c14 : PySem.W.codeIn K cd14 "_law_bag" = true) (k14 : PySem.W.keepIn K (.ref f14) = true)
    (a15 : PySem.W.nsIn K mainGlobals "_law_take" = some (some (.ref f15)))
    (l15 : K.lookup f15 = some ⟨oc15, od15, .func (PySem.W.fnOf "_law_take" "_law_take" (defArgs sL_take) (defBody sL_take) (defScope sL_take) .none kV15 dc15 pm15 an15 cd15 ct15), sl15⟩) (c15 : PySem.W.codeIn K cd15 "_law_take" = true) (k15 : PySem.W.keepIn K (.ref f15) = true)
    (a16 : PySem.W.nsIn K mainGlobals "_law_place" = some (some (.ref f16)))
    (l16 : K.lookup f16 = some ⟨oc16, od16, .func (PySem.W.fnOf "_law_place" "_law_place" (defArgs sL_place) (defBody sL_place) (defScope sL_place) .none kV16 dc16 pm16 an16 cd16 ct16), sl16⟩) (c16 : PySem.W.codeIn K cd16 "_law_place" = true) (k16 : PySem.W.keepIn K (.ref f16) = true)
    (a17 : PySem.W.nsIn K mainGlobals "_law_rows" = some (some (.ref f17)))
    (l17 : K.lookup f17 = some ⟨oc17, od17, .func (PySem.W.fnOf "_law_rows" "_law_rows" (defArgs sL_rows) (defBody sL_rows) (defScope sL_rows) .none kV17 dc17 pm17 an17 cd17 ct17), sl17⟩) (c17 : PySem.W.codeIn K cd17 "_law_rows" = true) (k17 : PySem.W.keepIn K (.ref f17) = true)
    (a18 : PySem.W.nsIn K mainGlobals "_law_led" = some (some (.ref f18)))
    (l18 : K.lookup f18 = some ⟨oc18, od18, .func (PySem.W.fnOf "_law_led" "_law_led" (defArgs sL_led) (defBody sL_led) (defScope sL_led) .none kV18 dc18 pm18 an18 cd18 ct18), sl18⟩) (c18 : PySem.W.codeIn K cd18 "_law_led" = true) (k18 : PySem.W.keepIn K (.ref f18) = true)
    (a19 : PySem.W.nsIn K mainGlobals "_law_hearer" = some (some (.ref f19)))
    (l19 : K.lookup f19 = some ⟨oc19, od19, .func (PySem.W.fnOf "_law_hearer" "_law_hearer" (defArgs sL_hearer) (defBody sL_hearer) (defScope sL_hearer) .none kV19 dc19 pm19 an19 cd19 ct19), sl19⟩) (c19 : PySem.W.codeIn K cd19 "_law_hearer" = true) (k19 : PySem.W.keepIn K (.ref f19) = true)
    (a20 : PySem.W.nsIn K mainGlobals "_law_sender" = some (some (.ref f20)))
    (l20 : K.lookup f20 = some ⟨oc20, od20, .func (PySem.W.fnOf "_law_sender" "_law_sender" (defArgs sL_sender) (defBody sL_sender) (defScope sL_sender) .none kV20 dc20 pm20 an20 cd20 ct20), sl20⟩) (c20 : PySem.W.codeIn K cd20 "_law_sender" = true) (k20 : PySem.W.keepIn K (.ref f20) = true)
    (a21 : PySem.W.nsIn K mainGlobals "_law_walked" = some (some (.ref f21)))
    (l21 : K.lookup f21 = some ⟨oc21, od21, .func (PySem.W.fnOf "_law_walked" "_law_walked" (defArgs sL_walked) (defBody sL_walked) (defScope sL_walked) .none kV21 dc21 pm21 an21 cd21 ct21), sl21⟩) (c21 : PySem.W.codeIn K cd21 "_law_walked" = true) (k21 : PySem.W.keepIn K (.ref f21) = true)
    (a22 : PySem.W.nsIn K mainGlobals "_law_told" = some (some (.ref f22)))
    (l22 : K.lookup f22 = some ⟨oc22, od22, .func (PySem.W.fnOf "_law_told" "_law_told" (defArgs sL_told) (defBody sL_told) (defScope sL_told) .none kV22 dc22 pm22 an22 cd22 ct22), sl22⟩) (c22 : PySem.W.codeIn K cd22 "_law_told" = true) (k22 : PySem.W.keepIn K (.ref f22) = true)
    (a23 : PySem.W.nsIn K mainGlobals "law" = some (some (.ref f23)))
    (l23 : K.lookup f23 = some ⟨oc23, od23, .func (PySem.W.fnOf "law" "law" (defArgs slaw) (defBody slaw) (defScope slaw) .none kV23 dc23 pm23 an23 cd23 ct23), sl23⟩) (c23 : PySem.W.codeIn K cd23 "law" = true) (k23 : PySem.W.keepIn K (.ref f23) = true)
    (z_int : PySem.W.nsIn K mainGlobals "int" = some none)
    (z_len : PySem.W.nsIn K mainGlobals "len" = some none)
    (z_abs : PySem.W.nsIn K mainGlobals "abs" = some none)
    (z_isinstance : PySem.W.nsIn K mainGlobals "isinstance" = some none)
    (z_bool : PySem.W.nsIn K mainGlobals "bool" = some none)
    (z_str : PySem.W.nsIn K mainGlobals "str" = some none)
    (z_tuple : PySem.W.nsIn K mainGlobals "tuple" = some none)
    (z_list : PySem.W.nsIn K mainGlobals "list" = some none)
    (z_enumerate : PySem.W.nsIn K mainGlobals "enumerate" = some none)
    (z_range : PySem.W.nsIn K mainGlobals "range" = some none)
    (z_max : PySem.W.nsIn K mainGlobals "max" = some none)
    (z_min : PySem.W.nsIn K mainGlobals "min" = some none)
    (z_repr : PySem.W.nsIn K mainGlobals "repr" = some none)
    (xC : PySem.W.nsIn K mainGlobals "BadEnd" = some (some (.ref CBadEnd))) (xD : PySem.W.nsIn K mainGlobals "End" = some (some (.ref CEnd)))
    (xL : K.lookup CBadEnd = some (excClassObj nm q CBadEnd N bs [.type "ValueError", .type "Exception", .type "BaseException", .type "object"] true sn sub ab col dd m0 m1 m2 m3 m5 "ValueError.__new__"))
    (xsa : PySem.W.findIn K (.ref CBadEnd) "__setattr__" = some (some (.builtin "object.__setattr__"))) (xga : PySem.W.findIn K (.ref CBadEnd) "__getattribute__" = some (some (.builtin "BaseException.__getattribute__"))) (xgg : PySem.W.findIn K (.ref CBadEnd) "__getattr__" = some none)
    (xn1 : PySem.W.findIn K (.ref CBadEnd) "part" = some none) (xn2 : PySem.W.findIn K (.ref CBadEnd) "row" = some none) (xt1 : PySem.W.typeIn K (.ref f1) = some (.type "function"))
    (xkC : PySem.W.keepIn K (.ref CBadEnd) = true) (xeC : PySem.W.subIn K (.ref CBadEnd) (.type "BaseException") = some true) (xtC : PySem.W.typeIn K (.ref CBadEnd) = some (.type "type")) (xhC : PySem.W.hasDictIn K CBadEnd = true)
    (xiC : PySem.W.isClsIn K CBadEnd = true) (xsC : PySem.W.subIn K (.ref CBadEnd) (.ref CBadEnd) = some true)
    (ypg : PySem.W.plainGet K CEnd Str.empty = true) (yhd : PySem.W.hasDictIn K CEnd = true) (ypo : PySem.W.plainOver K CEnd = true) (ysa : PySem.W.findIn K (.ref CEnd) "__setattr__" = some (some (.builtin "object.__setattr__"))) (ymk : PySem.W.makesIn K CEnd = true) (ykc : PySem.W.keepIn K (.ref CEnd) = true)
    (yn1 : PySem.W.findIn K (.ref CEnd) "hearer_rows" = some none) (yn2 : PySem.W.findIn K (.ref CEnd) "sender_rows" = some none) (yn3 : PySem.W.findIn K (.ref CEnd) "rows" = some none)
    (yrd : PySem.W.readsIn K CEnd (.type "type") = true) (yga : PySem.W.specialIn K (.ref CEnd) "__getattribute__" = some (some (.builtin "type.__getattribute__"))) (yat : PySem.W.findCls K (.ref CEnd) (.type "type") "MOST" = some (.val (.int 100 mt)))
    (wh : PySem.W.nsIn K mainGlobals "HEARER_WORDS" = some (some (.ref hA))) (ws : PySem.W.nsIn K mainGlobals "SENDER_WORDS" = some (some (.ref sA)))
    (whl : K.lookup hA = some ⟨.type "tuple", hd, .seq #[.str "taken" ht1, .str "lost" ht2] hn, hsl⟩) (wsl : K.lookup sA = some ⟨.type "tuple", sd, .seq #[.str "done" st1, .str "again" st2] sn', ssl⟩) :
    ∃ fd : FuncData, (∀ (s : Shared) (v : Value), BindsTo s fd ⟨[v], []⟩ [("_law_script", v)]) ∧ ∀ base : Heap, K.In base → base.Ns mainGlobals mg → FnG l.prog w K mg base CX0 9 fa fd ["_law_script"] (spLaw K) := by
  have e := hfa.symm.trans (PySem.W.mg_of X G a23)
  cases e
  have F1 := fun_mk (st := sBadEnd_init) l1 c1 k1
  have B1 := F1.binds (ps := ["self", "part", "row"]) fun _ _ _ _ _ _ us hl => match us, hl with | [_, _, _], _ => rfl
  have F2 := fun_mk (st := sis_number) l2 c2 k2
  have B2 := F2.binds (ps := ["value"]) fun _ _ _ _ _ _ us hl => match us, hl with | [_], _ => rfl
  have F3 := fun_mk (st := sis_follower) l3 c3 k3
  have B3 := F3.binds (ps := ["value", "size", "words"]) fun _ _ _ _ _ _ us hl => match us, hl with | [_, _, _], _ => rfl
  have F4 := fun_mk (st := sis_row) l4 c4 k4
  have B4 := F4.binds (ps := ["value", "size", "words"]) fun _ _ _ _ _ _ us hl => match us, hl with | [_, _, _], _ => rfl
  have F5 := fun_mk (st := sreached) l5 c5 k5
  have B5 := F5.binds (ps := ["rows", "begin"]) fun _ _ _ _ _ _ us hl => match us, hl with | [_, _], _ => rfl
  have F6 := fun_mk (st := scheck_machine) l6 c6 k6
  have B6 := F6.binds (ps := ["part", "machine", "fewest", "most", "words"]) fun _ _ _ _ _ _ us hl => match us, hl with | [_, _, _, _, _], _ => rfl
  have F7 := fun_mk (st := snumbered_rows) l7 c7 k7
  have B7 := F7.binds (ps := ["part", "machine"]) fun _ _ _ _ _ _ us hl => match us, hl with | [_, _], _ => rfl
  have F8 := fun_mk (st := sEnd_init) l8 c8 k8
  have B8 := F8.binds (ps := ["self", "hearer", "sender"]) fun _ _ _ _ _ _ us hl => match us, hl with | [_, _, _], _ => rfl
  have F9 := fun_mk (st := sEnd_hearer) l9 c9 k9
  have B9 := F9.binds (ps := ["self"]) fun _ _ _ _ _ _ us hl => match us, hl with | [_], _ => rfl
  have F10 := fun_mk (st := sEnd_sender) l10 c10 k10
  have B10 := F10.binds (ps := ["self"]) fun _ _ _ _ _ _ us hl => match us, hl with | [_], _ => rfl
  have F11 := fun_mk (st := sbeginning) l11 c11 k11
  have B11 := F11.binds (ps := ["end", "start"]) fun _ _ _ _ _ _ us hl => match us, hl with | [_, _], _ => rfl
  have F12 := fun_mk (st := sseen_at) l12 c12 k12
  have B12 := F12.binds (ps := ["rows", "place"]) fun _ _ _ _ _ _ us hl => match us, hl with | [_, _], _ => rfl
  have F13 := fun_mk (st := sshown) l13 c13 k13
  have B13 := F13.binds (ps := ["end", "start", "bits"]) fun _ _ _ _ _ _ us hl => match us, hl with | [_, _, _], _ => rfl
  have F14 := fun_mk (st := sL_bag) l14 c14 k14
  have B14 := F14.binds (ps := ["_law_script", "_law_at"]) fun _ _ _ _ _ _ us hl => match us, hl with | [_, _], _ => rfl
  have F15 := fun_mk (st := sL_take) l15 c15 k15
  have B15 := F15.binds (ps := ["_law_bag_here", "_law_many"]) fun _ _ _ _ _ _ us hl => match us, hl with | [_, _], _ => rfl
  have F16 := fun_mk (st := sL_place) l16 c16 k16
  have B16 := F16.binds (ps := ["_law_bag_here", "_law_many", "_law_words"]) fun _ _ _ _ _ _ us hl => match us, hl with | [_, _, _], _ => rfl
  have F17 := fun_mk (st := sL_rows) l17 c17 k17
  have B17 := F17.binds (ps := ["_law_bag_here", "_law_many", "_law_words"]) fun _ _ _ _ _ _ us hl => match us, hl with | [_, _, _], _ => rfl
  have F18 := fun_mk (st := sL_led) l18 c18 k18
  have B18 := F18.binds (ps := ["_law_rows_here", "_law_first"]) fun _ _ _ _ _ _ us hl => match us, hl with | [_, _], _ => rfl
  have F19 := fun_mk (st := sL_hearer) l19 c19 k19
  have B19 := F19.binds (ps := ["_law_bag_here", "_law_many"]) fun _ _ _ _ _ _ us hl => match us, hl with | [_, _], _ => rfl
  have F20 := fun_mk (st := sL_sender) l20 c20 k20
  have B20 := F20.binds (ps := ["_law_bag_here", "_law_many"]) fun _ _ _ _ _ _ us hl => match us, hl with | [_, _], _ => rfl
  have F21 := fun_mk (st := sL_walked) l21 c21 k21
  have B21 := F21.binds (ps := ["_law_hearer_here", "_law_sender_here", "_law_name", "_law_some"]) fun _ _ _ _ _ _ us hl => match us, hl with | [_, _, _, _], _ => rfl
  have F22 := fun_mk (st := sL_told) l22 c22 k22
  have B22 := F22.binds (ps := ["_law_bag_here", "_law_whole", "_law_name", "_law_some"]) fun _ _ _ _ _ _ us hl => match us, hl with | [_, _, _, _], _ => rfl
  have F23 := fun_mk (st := slaw) l23 c23 k23
  have B23 := F23.binds (ps := ["_law_script"]) fun _ _ _ _ _ _ us hl => match us, hl with | [_], _ => rfl
  refine ⟨PySem.W.fnOf "law" "law" (defArgs slaw) (defBody slaw) (defScope slaw) .none kV23 dc23 pm23 an23 cd23 ct23, fun s v => .of_eq rfl, fun base _ _ => ?_⟩
  have T : Txt K mg := ⟨PySem.W.mg_none_of X G z_int, PySem.W.mg_none_of X G z_len, PySem.W.mg_none_of X G z_abs, PySem.W.mg_none_of X G z_isinstance, PySem.W.mg_none_of X G z_bool, PySem.W.mg_none_of X G z_str, PySem.W.mg_none_of X G z_tuple, PySem.W.mg_none_of X G z_list, PySem.W.mg_none_of X G z_enumerate, PySem.W.mg_none_of X G z_range, PySem.W.mg_none_of X G z_max, PySem.W.mg_none_of X G z_min, PySem.W.mg_none_of X G z_repr⟩
  have TE : TxtE K mg CEnd hA sA := { T with
    m_End := PySem.W.mg_of X G xD, m_HEARER_WORDS := PySem.W.mg_of X G wh, m_SENDER_WORDS := PySem.W.mg_of X G ws,
    hW := fun H => .inr ⟨_, _, _, whl, rfl, rfl, (by show 2 ≤ sizeLine; decide), .cons ⟨_, rfl⟩ (.cons ⟨_, rfl⟩ .nil)⟩, sW := fun H => .inr ⟨_, _, _, wsl, rfl, rfl, (by show 2 ≤ sizeLine; decide), .cons ⟨_, rfl⟩ (.cons ⟨_, rfl⟩ .nil)⟩,
    clD := ⟨ypg, yhd, ypo, ysa⟩, n1 := yn1, n2 := yn2, n3 := yn3, most := ⟨_, _, ⟨yrd, yga⟩, ⟨yat, ⟨_, rfl⟩⟩⟩ }
  have te : PySem.W.exmOne K (.ref CBadEnd) (.ref CBadEnd) = some true := by
    have e1 : (PySem.W.subIn K (.ref CBadEnd) (.type "BaseException") == some true) = true := by rw [xeC] <;> rfl
    have h2' : (PySem.W.clsIn K CBadEnd).isSome = true := xiC
    have e2 : ((PySem.W.clsIn K CBadEnd).isSome && PySem.W.typeIn K (.ref CBadEnd) == some (.type "type")) = true := by rw [h2', xtC] <;> rfl
    unfold PySem.W.exmOne
    rw [if_pos e1]
    unfold PySem.W.kitCls
    dsimp only
    rw [if_pos e2]
    exact xsC
  have oc : OexC K CBadEnd := ⟨⟨nm, q, N, bs, _, sn, sub, ab, col, dd, m0, m1, m2, m3, m5, xL, by decide +kernel⟩, xsa, xeC, xtC, xkC⟩
  have O1 : Ox l.prog w K mg base 1 "BadEnd" CBadEnd f1 _ ["self", "part", "row"] (spBadInit CBadEnd) := ⟨oc, a1, xt1, ok_bad F1 oc xn1 xn2, B1, PySem.W.mg_of X G xC⟩
  have G2 : Fx l.prog w K mg base CX0 1 "is_number" f2 _ ["value"] spNum := ⟨ok_num F2 T, PySem.W.mg_of X G a2, k2, B2⟩
  have G3 : Fx l.prog w K mg base CX0 2 "is_follower" f3 _ ["value", "size", "words"] (spFol K) := ⟨ok_fol F3 T G2, PySem.W.mg_of X G a3, k3, B3⟩
  have G4 : Fx l.prog w K mg base CX0 3 "is_row" f4 _ ["value", "size", "words"] (spRow K) := ⟨ok_row F4 T G2 G3, PySem.W.mg_of X G a4, k4, B4⟩
  have G5 : Fx l.prog w K mg base CX0 2 "reached" f5 _ ["rows", "begin"] (spReach K) := ⟨ok_reach F5 T G2, PySem.W.mg_of X G a5, k5, B5⟩
  have G6 : Fx l.prog w K mg base (L2.CX l.prog w) 4 "check_machine" f6 _ ["part", "machine", "fewest", "most", "words"] (spCheck K CBadEnd) := ⟨ok_check F6 T G4 O1, PySem.W.mg_of X G a6, k6, B6⟩
  have G7 : Fx l.prog w K mg base CX0 1 "numbered_rows" f7 _ ["part", "machine"] spNumb := ⟨ok_numb F7 T, PySem.W.mg_of X G a7, k7, B7⟩
  have M8 : Mx l.prog w K mg base (L2.CX l.prog w) 5 "End" CEnd f8 _ ["self", "hearer", "sender"] (spEnd CBadEnd CEnd) := ⟨⟨ymk, a8, i8, ykc⟩, ok_end F8 TE G6 G5 G7 O1, PySem.W.mg_of X G xD, B8⟩
  have Q9 : Px l.prog w K mg base CEnd p9 f9 _ "hearer" "hearer_rows" := ⟨⟨a9, g9, t9, _, r9⟩, ok_hearer_get F9 ⟨ypg, yhd, ypo, ysa⟩ yn1, B9⟩
  have Q10 : Px l.prog w K mg base CEnd p10 f10 _ "sender" "sender_rows" := ⟨⟨a10, g10, t10, _, r10⟩, ok_sender_get F10 ⟨ypg, yhd, ypo, ysa⟩ yn2, B10⟩
  have Gb : Fx l.prog w K mg base CX0 3 "beginning" f11 _ ["end", "start"] (spBegin CEnd) := ⟨ok_begin F11 TE Q9 Q10, PySem.W.mg_of X G a11, k11, B11⟩
  have Gs : Fx l.prog w K mg base CX0 2 "seen_at" f12 _ ["rows", "place"] spSeen := ⟨ok_seen F12 T G2, PySem.W.mg_of X G a12, k12, B12⟩
  have Gh : Fx l.prog w K mg base CX0 4 "shown" f13 _ ["end", "start", "bits"] (spShown K CEnd) := ⟨ok_shown F13 T G2 Gb Gs, PySem.W.mg_of X G a13, k13, B13⟩
  have Lb : Fx l.prog w K mg base CX0 1 "_law_bag" f14 _ ["_law_script", "_law_at"] (spBag K) := ⟨ok_bag F14 T, PySem.W.mg_of X G a14, k14, B14⟩
  have Lt : Fx l.prog w K mg base CX0 1 "_law_take" f15 _ ["_law_bag_here", "_law_many"] spTake := ⟨ok_take F15 T, PySem.W.mg_of X G a15, k15, B15⟩
  have Lp : Fx l.prog w K mg base CX0 2 "_law_place" f16 _ ["_law_bag_here", "_law_many", "_law_words"] spPlaceW := ⟨ok_placew F16 T Lt, PySem.W.mg_of X G a16, k16, B16⟩
  have Lr : Fx l.prog w K mg base CX0 3 "_law_rows" f17 _ ["_law_bag_here", "_law_many", "_law_words"] spRows := ⟨ok_rows F17 T Lt Lp, PySem.W.mg_of X G a17, k17, B17⟩
  have Ll : Fx l.prog w K mg base CX0 1 "_law_led" f18 _ ["_law_rows_here", "_law_first"] spLed := ⟨ok_led F18 T, PySem.W.mg_of X G a18, k18, B18⟩
  have Lh : Fx l.prog w K mg base CX0 4 "_law_hearer" f19 _ ["_law_bag_here", "_law_many"] spHearer := ⟨ok_hearer F19 T Lr Ll, PySem.W.mg_of X G a19, k19, B19⟩
  have Ls : Fx l.prog w K mg base CX0 4 "_law_sender" f20 _ ["_law_bag_here", "_law_many"] spSender := ⟨ok_sender F20 Lr, PySem.W.mg_of X G a20, k20, B20⟩
  have Lw : Fx l.prog w K mg base CX0 1 "_law_walked" f21 _ ["_law_hearer_here", "_law_sender_here", "_law_name", "_law_some"] spWalked := ⟨ok_walked F21 T, PySem.W.mg_of X G a21, k21, B21⟩
  have Lo : Fx l.prog w K mg base CX0 5 "_law_told" f22 _ ["_law_bag_here", "_law_whole", "_law_name", "_law_some"] (spTold9 CEnd) := ⟨ok_told9 F22 T Lt Gh (kb_shown F13), PySem.W.mg_of X G a22, k22, B22⟩
  exact ok_law F23 T Lb Lt Lh Ls M8 Lw Lo Gh

end K09
open PySem PySem.W PyProof.Rows
set_option maxRecDepth 100000 in
set_option maxHeartbeats 0 in
theorem PySem.Challenge.cw_strongbit_k09_what_ends_show_holds : PySem.Challenge.rw_strongbit_k09_what_ends_show.Holds := by
  w_on; o_law; k_head; (case hw => w_witness2)
  k_fill
  refine Sb.walkG (l := PySem.Challenge.rw_strongbit_k09_what_ends_show) (n := 63) (k := 9) (x := "_law_script") (sp := fun w => K09.spLaw _) rfl (by decide) rfl ⟨rfl, by decide, by decide⟩ (fun w h Y => PySem.W.kIn_of Y) ?F (fun _ _ a ns hl _ hS => ⟨a, ns, rfl, hS, hl, fun _ => rfl⟩)
  case F =>
    intro w mg fa h KX G hmg
    refine' K09.all_mk KX G hmg ?a1 ?i1 ?l1 ?c1 ?k1 ?a2 ?l2 ?c2 ?k2 ?a3 ?l3 ?c3 ?k3 ?a4 ?l4 ?c4 ?k4 ?a5 ?l5 ?c5 ?k5 ?a6 ?l6 ?c6 ?k6 ?a7 ?l7 ?c7 ?k7 ?a8 ?i8 ?l8 ?c8 ?k8 ?a9 ?g9 ?t9 ?r9 ?l9 ?c9 ?k9 ?a10 ?g10 ?t10 ?r10 ?l10 ?c10 ?k10 ?a11 ?l11 ?c11 ?k11 ?a12 ?l12 ?c12 ?k12 ?a13 ?l13 ?c13 ?k13 ?a14 ?l14 ?c14 ?k14 ?a15 ?l15 ?c15 ?k15 ?a16 ?l16 ?c16 ?k16 ?a17 ?l17 ?c17 ?k17 ?a18 ?l18 ?c18 ?k18 ?a19 ?l19 ?c19 ?k19 ?a20 ?l20 ?c20 ?k20 ?a21 ?l21 ?c21 ?k21 ?a22 ?l22 ?c22 ?k22 ?a23 ?l23 ?c23 ?k23 ?z_int ?z_len ?z_abs ?z_isinstance ?z_bool ?z_str ?z_tuple ?z_list ?z_enumerate ?z_range ?z_max ?z_min ?z_repr ?xC ?xD ?xL ?xsa ?xga ?xgg ?xn1 ?xn2 ?xt1 ?xkC ?xeC ?xtC ?xhC ?xiC ?xsC ?ypg ?yhd ?ypo ?ysa ?ymk ?ykc ?yn1 ?yn2 ?yn3 ?yrd ?yga ?yat ?wh ?ws ?whl ?wsl
    (case xC => k_is)
    (case xD => k_is)
    (case a1 => k_is)
    (case i1 => k_is)
    (case l1 => k_is)
    (case c1 => k_is)
    (case k1 => k_is)
    (case a2 => k_is)
    (case l2 => k_is)
    (case c2 => k_is)
    (case k2 => k_is)
    (case a3 => k_is)
    (case l3 => k_is)
    (case c3 => k_is)
    (case k3 => k_is)
    (case a4 => k_is)
    (case l4 => k_is)
    (case c4 => k_is)
    (case k4 => k_is)
    (case a5 => k_is)
    (case l5 => k_is)
    (case c5 => k_is)
    (case k5 => k_is)
    (case a6 => k_is)
    (case l6 => k_is)
    (case c6 => k_is)
    (case k6 => k_is)
    (case a7 => k_is)
    (case l7 => k_is)
    (case c7 => k_is)
    (case k7 => k_is)
    (case a8 => k_is)
    (case i8 => k_is)
    (case l8 => k_is)
    (case c8 => k_is)
    (case k8 => k_is)
    (case a9 => k_is)
    (case g9 => k_is)
    (case t9 => k_is)
    (case r9 => k_is)
    (case l9 => k_is)
    (case c9 => k_is)
    (case k9 => k_is)
    (case a10 => k_is)
    (case g10 => k_is)
    (case t10 => k_is)
    (case r10 => k_is)
    (case l10 => k_is)
    (case c10 => k_is)
    (case k10 => k_is)
    (case a11 => k_is)
    (case l11 => k_is)
    (case c11 => k_is)
    (case k11 => k_is)
    (case a12 => k_is)
    (case l12 => k_is)
    (case c12 => k_is)
    (case k12 => k_is)
    (case a13 => k_is)
    (case l13 => k_is)
    (case c13 => k_is)
    (case k13 => k_is)
    (case a14 => k_is)
    (case l14 => k_is)
    (case c14 => k_is)
    (case k14 => k_is)
    (case a15 => k_is)
    (case l15 => k_is)
    (case c15 => k_is)
    (case k15 => k_is)
    (case a16 => k_is)
    (case l16 => k_is)
    (case c16 => k_is)
    (case k16 => k_is)
    (case a17 => k_is)
    (case l17 => k_is)
    (case c17 => k_is)
    (case k17 => k_is)
    (case a18 => k_is)
    (case l18 => k_is)
    (case c18 => k_is)
    (case k18 => k_is)
    (case a19 => k_is)
    (case l19 => k_is)
    (case c19 => k_is)
    (case k19 => k_is)
    (case a20 => k_is)
    (case l20 => k_is)
    (case c20 => k_is)
    (case k20 => k_is)
    (case a21 => k_is)
    (case l21 => k_is)
    (case c21 => k_is)
    (case k21 => k_is)
    (case a22 => k_is)
    (case l22 => k_is)
    (case c22 => k_is)
    (case k22 => k_is)
    (case a23 => k_is)
    (case l23 => k_is)
    (case c23 => k_is)
    (case k23 => k_is)
    (case z_int => k_is)
    (case z_len => k_is)
    (case z_abs => k_is)
    (case z_isinstance => k_is)
    (case z_bool => k_is)
    (case z_str => k_is)
    (case z_tuple => k_is)
    (case z_list => k_is)
    (case z_enumerate => k_is)
    (case z_range => k_is)
    (case z_max => k_is)
    (case z_min => k_is)
    (case z_repr => k_is)
    (case xL => k_is)
    (case xsa => k_is)
    (case xga => k_is)
    (case xgg => k_is)
    (case xn1 => k_is)
    (case xn2 => k_is)
    (case xt1 => k_is)
    (case xkC => k_is)
    (case xeC => k_is)
    (case xtC => k_is)
    (case xhC => k_is)
    (case xiC => k_is)
    (case xsC => k_is)
    (case ypg => k_is)
    (case yhd => k_is)
    (case ypo => k_is)
    (case ysa => k_is)
    (case ymk => k_is)
    (case ykc => k_is)
    (case yn1 => k_is)
    (case yn2 => k_is)
    (case yn3 => k_is)
    (case yrd => k_is)
    (case yga => k_is)
    (case yat => k_is)
    (case wh => k_is)
    (case ws => k_is)
    (case whl => k_is)
    (case wsl => k_is)

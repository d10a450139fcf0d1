/- Commands as text: plain words. No Go in it. -/
namespace Go.Proofs.YtocnmdabilaccaaDoor
set_option linter.unusedVariables false

/-- A command, plainly. -/
structure Cd where
  word : List UInt8
  nums : List Int

def wStats : List UInt8 := [115, 116, 97, 116, 115]
def wSave : List UInt8 := [115, 97, 118, 101]
def wLoad : List UInt8 := [108, 111, 97, 100]
def wDel : List UInt8 := [100, 101, 108]
def wGet : List UInt8 := [103, 101, 116]
def wFloor : List UInt8 := [102, 108, 111, 111, 114]
def wCeil : List UInt8 := [99, 101, 105, 108]
def wRank : List UInt8 := [114, 97, 110, 107]
def wPut : List UInt8 := [112, 117, 116]
def wRange : List UInt8 := [114, 97, 110, 103, 101]
def wPath : List UInt8 := [112, 97, 116, 104]
def wMap : List UInt8 := [109, 97, 112]

/-- How many numbers a word has behind it; -1: it is no command's. -/
def takes (w : List UInt8) : Int :=
  if w = wStats ∨ w = wSave ∨ w = wLoad then 0
  else if w = wDel ∨ w = wGet ∨ w = wFloor ∨ w = wCeil ∨ w = wRank then 1
  else if w = wPut ∨ w = wRange ∨ w = wPath then 2
  else if w = wMap then 3 else -1

/-- A digit. -/
def dig (n : Nat) : UInt8 := UInt8.ofNat (48 + n)
theorem dig_nat (n : Nat) (h : n < 10) : (dig n).toNat = 48 + n := by
  unfold dig
  rw [UInt8.toNat_ofNat']
  omega
def digF : Nat → Nat → List UInt8
  | 0, _ => []
  | k + 1, n => if n < 10 then [dig n] else digF k (n / 10) ++ [dig (n % 10)]
theorem digF_eq : ∀ (k n : Nat), n < k → digF k n = digF (n + 1) n := by
  intro k
  induction k using Nat.strongRecOn with
  | _ k ih =>
    intro n h
    cases k with
    | zero => omega
    | succ k =>
      by_cases q : n < 10
      · simp [digF, q]
      · have e1 : digF (k + 1) n = digF k (n / 10) ++ [dig (n % 10)] := by rw [digF, if_neg q]
        have e2 : digF (n + 1) n = digF n (n / 10) ++ [dig (n % 10)] := by rw [digF, if_neg q]
        rw [e1, e2]
        congr 1
        have d : n / 10 < n := Nat.div_lt_self (by omega) (by omega)
        rw [ih k (by omega) (n / 10) (by omega)]
        by_cases z : n = k + 1
        · omega
        · rw [ih n (by omega) (n / 10) d]
/-- A number in digits. -/
def digits (n : Nat) : List UInt8 := digF (n + 1) n
theorem digits_lt {n : Nat} (h : n < 10) : digits n = [dig n] := by simp [digits, digF, h]
theorem digits_ge {n : Nat} (h : ¬ n < 10) : digits n = digits (n / 10) ++ [dig (n % 10)] := by
  have e : digits n = digF n (n / 10) ++ [dig (n % 10)] := by
    show digF (n + 1) n = _
    rw [digF, if_neg h]
  rw [e]
  congr 1
  exact digF_eq n (n / 10) (Nat.div_lt_self (by omega) (by omega))
/-- What digits say. -/
def valD (a : Nat) (b : UInt8) : Nat := 10 * a + (b.toNat - 48)
def val (l : List UInt8) : Nat := l.foldl valD 0
theorem val_snoc (l : List UInt8) (b : UInt8) : val (l ++ [b]) = 10 * val l + (b.toNat - 48) := by
  unfold val
  rw [List.foldl_append]
  rfl
theorem digits_ind {Q : Nat → Prop} (h1 : ∀ n, n < 10 → Q n) (h2 : ∀ n, ¬ n < 10 → Q (n / 10) → Q n) (n : Nat) : Q n := by
  induction n using Nat.strongRecOn with
  | _ n ih =>
    by_cases q : n < 10
    · exact h1 n q
    · exact h2 n q (ih _ (Nat.div_lt_self (by omega) (by omega)))
theorem val_digits (n : Nat) : val (digits n) = n := by
  induction n using digits_ind with
  | h1 n h =>
    rw [digits_lt h]
    show valD 0 (dig n) = n
    unfold valD
    rw [dig_nat n h]
    omega
  | h2 n h ih =>
    rw [digits_ge h, val_snoc, ih, dig_nat _ (by omega)]
    omega
/-- A digit's byte. -/
def isD (b : UInt8) : Prop := 48 ≤ b.toNat ∧ b.toNat ≤ 57
theorem digits_isD (n : Nat) : ∀ b ∈ digits n, isD b := by
  induction n using digits_ind with
  | h1 n h =>
    rw [digits_lt h]
    intro b hb
    simp only [List.mem_cons, List.not_mem_nil, or_false] at hb
    subst hb
    unfold isD
    rw [dig_nat n h]
    omega
  | h2 n h ih =>
    rw [digits_ge h]
    intro b hb
    rcases List.mem_append.1 hb with q | q
    · exact ih b q
    · simp only [List.mem_cons, List.not_mem_nil, or_false] at q
      subst q
      unfold isD
      rw [dig_nat _ (by omega)]
      omega
theorem digits_ne (n : Nat) : digits n ≠ [] := by
  by_cases h : n < 10
  · rw [digits_lt h]; simp
  · rw [digits_ge h]; simp
theorem digits_len (k : Nat) : ∀ (n : Nat), n < 10 ^ (k + 1) → (digits n).length ≤ k + 1 := by
  induction k with
  | zero =>
    intro n h
    rw [digits_lt (by simpa using h)]
    simp
  | succ k ih =>
    intro n h
    by_cases q : n < 10
    · rw [digits_lt q]; simp
    · rw [digits_ge q]
      have := ih (n / 10) (by rw [Nat.pow_succ] at h; omega)
      simp
      omega
theorem digits_len20 {n : Nat} (h : n < 18446744073709551616) : (digits n).length ≤ 20 :=
  digits_len 19 n (Nat.lt_of_lt_of_le h (by decide))
theorem val_foldl (l : List UInt8) : ∀ a, a ≤ l.foldl valD a := by
  induction l with
  | nil => intro a; exact Nat.le_refl _
  | cons b l ih =>
    intro a
    refine Nat.le_trans ?_ (ih (valD a b))
    unfold valD
    omega
theorem val_take (l : List UInt8) (i : Nat) : val (l.take i) ≤ val l := by
  have : val l = (l.drop i).foldl valD (val (l.take i)) := by
    unfold val
    rw [← List.foldl_append, List.take_append_drop]
  rw [this]
  exact val_foldl _ _

/-- The number that a word is. -/
def numOf (w : List UInt8) : Option Int := if digits (val w) = w ∧ val w < 18446744073709551616 then some (val w : Int) else none
theorem numOf_digits {n : Nat} (h : n < 18446744073709551616) : numOf (digits n) = some (n : Int) := by
  unfold numOf
  rw [val_digits, if_pos ⟨rfl, h⟩]
theorem numOf_some {w : List UInt8} {n : Int} (h : numOf w = some n) : w = digits n.toNat ∧ 0 ≤ n ∧ n < 18446744073709551616 := by
  unfold numOf at h
  split at h
  · rename_i q
    cases h
    refine ⟨?_, by omega, by omega⟩
    rw [Int.toNat_natCast, q.1]
  · cases h
/-- A byte that is no digit. -/
theorem numOf_bad {w : List UInt8} {b : UInt8} (hb : b ∈ w) (h : ¬ isD b) : numOf w = none := by
  unfold numOf
  rw [if_neg]
  rintro ⟨q, _⟩
  rw [← q] at hb
  exact h (digits_isD _ b hb)
theorem numOf_long {w : List UInt8} (h : 20 < w.length) : numOf w = none := by
  unfold numOf
  rw [if_neg]
  rintro ⟨q, r⟩
  have := digits_len20 r
  rw [q] at this
  omega
theorem numOf_great {w : List UInt8} {i : Nat} (h : 18446744073709551616 ≤ val (w.take i)) : numOf w = none := by
  unfold numOf
  rw [if_neg]
  rintro ⟨q, r⟩
  have := val_take w i
  omega
theorem numOf_told {w : List UInt8} (h : val w < 18446744073709551616) : numOf w = if digits (val w) = w then some (val w : Int) else none := by
  unfold numOf
  by_cases q : digits (val w) = w
  · rw [if_pos ⟨q, h⟩, if_pos q]
  · rw [if_neg (fun x => q x.1), if_neg q]

/-- The pieces of a text between bytes of a kind; the first one begun already. -/
def spl (c : UInt8) : List UInt8 → List UInt8 → List (List UInt8)
  | acc, [] => [acc]
  | acc, b :: l => if b = c then acc :: spl c [] l else spl c (acc ++ [b]) l
theorem spl_ne (c : UInt8) : ∀ (l acc : List UInt8), spl c acc l ≠ [] := by
  intro l
  induction l with
  | nil => intro acc; simp [spl]
  | cons b l ih =>
    intro acc
    unfold spl
    split
    · simp
    · exact ih _
/-- No such byte: one piece. -/
theorem spl_plain (c : UInt8) : ∀ (p acc l : List UInt8), (∀ b ∈ p, b ≠ c) → spl c acc (p ++ l) = spl c (acc ++ p) l := by
  intro p
  induction p with
  | nil => intro acc l _; simp
  | cons b p ih =>
    intro acc l h
    rw [List.cons_append, spl, if_neg (h b List.mem_cons_self), ih _ _ (fun x hx => h x (List.mem_cons_of_mem _ hx))]
    simp
theorem spl_at (c : UInt8) (acc l : List UInt8) : spl c acc (c :: l) = acc :: spl c [] l := by simp [spl]
theorem spl_two (c : UInt8) : ∀ (a acc b : List UInt8), spl c acc (a ++ c :: b) = spl c acc a ++ spl c [] b := by
  intro a
  induction a with
  | nil => intro acc b; simp [spl]
  | cons x a ih =>
    intro acc b
    rw [List.cons_append, spl, spl]
    by_cases q : x = c
    · rw [if_pos q, if_pos q, ih]; rfl
    · rw [if_neg q, if_neg q, ih]
/-- How long they are in all. -/
def lens (L : List (List UInt8)) : Nat := (L.map (fun p => p.length + 1)).sum
theorem spl_lens (c : UInt8) : ∀ (l acc : List UInt8), lens (spl c acc l) = acc.length + l.length + 1 := by
  intro l
  induction l with
  | nil => intro acc; simp [spl, lens]
  | cons b l ih =>
    intro acc
    unfold spl
    split
    · have := ih []
      simp only [lens, List.map_cons, List.sum_cons] at this ⊢
      rw [this]
      simp
      omega
    · rw [ih]
      simp
      omega

/-- The words of a line. -/
def wordsOf (l : List UInt8) : List (List UInt8) := (spl 32 [] l).filter (fun p => decide (p ≠ []))
def numsOf : List (List UInt8) → Option (List Int)
  | [] => some []
  | w :: r => match numOf w with
    | none => none
    | some n => match numsOf r with
      | none => none
      | some ns => some (n :: ns)
/-- A line read, behind so many commands: whether it is a command; what is wrong with it; the command. -/
def cmdOf (ws : List (List UInt8)) (ahead : Nat) : Bool × Int × Cd :=
  match ws with
  | [] => (false, 0, ⟨[], []⟩)
  | w :: r =>
    if w.head? = some 35 then (false, 0, ⟨[], []⟩)
    else if 4096 ≤ ahead then (true, 210, ⟨[], []⟩)
    else if takes w < 0 then (true, 211, ⟨[], []⟩)
    else if takes w ≠ (r.length : Int) then (true, 213, ⟨[], []⟩)
    else match numsOf r with
      | none => (true, 212, ⟨[], []⟩)
      | some ns => (true, 0, ⟨w, ns⟩)
def goP : List (List UInt8) → Nat → List Cd → List Cd × Int × Int
  | [], _, out => (out, 0, 0)
  | l :: r, i, out =>
    if (cmdOf (wordsOf l) out.length).2.1 ≠ 0 then ([], (i : Int) + 1, (cmdOf (wordsOf l) out.length).2.1)
    else if (cmdOf (wordsOf l) out.length).1 = true then goP r (i + 1) (out ++ [(cmdOf (wordsOf l) out.length).2.2])
    else goP r (i + 1) out
/-- A text read: the commands, the line that is wrong, what is wrong. -/
def parse (t : List UInt8) : List Cd × Int × Int := if 65536 < t.length then ([], 0, 210) else goP (spl 10 [] t) 0 []

/-- A command as a line. -/
def lineOf (c : Cd) : List UInt8 := c.word ++ c.nums.flatMap (fun n => 32 :: digits n.toNat)
def chk : List Cd → Int
  | [] => 0
  | c :: r => if takes c.word < 0 then 211 else if takes c.word ≠ (c.nums.length : Int) then 213 else chk r
def text (l : List Cd) : List UInt8 := l.flatMap (fun c => lineOf c ++ [10])
/-- Commands written. -/
def print (l : List Cd) : List UInt8 × Int :=
  if 4096 < l.length then ([], 210) else if chk l ≠ 0 then ([], chk l) else if 65536 < (text l).length then ([], 210) else (text l, 0)

/-- The operation of a command. -/
def kindOf (w : List UInt8) : Int :=
  if w = wPut then 1 else if w = wDel then 2 else if w = wGet then 3 else if w = wFloor then 4 else if w = wCeil then 5 else if w = wRank then 6 else if w = wRange then 7 else 0
def opOf (c : Cd) : Bool × Int × Int × Int :=
  if kindOf c.word = 0 ∨ takes c.word ≠ (c.nums.length : Int) then (false, 0, 0, 0) else (true, kindOf c.word, c.nums.getD 0 0, c.nums.getD 1 0)

/-- An int in digits. -/
def signed (n : Int) : List UInt8 := if n < 0 then 45 :: digits (-n).toNat else digits n.toNat
def pairsOf (l : List (Int × Int)) : List UInt8 := digits l.length ++ l.flatMap (fun p => 32 :: digits p.1.toNat ++ 32 :: digits p.2.toNat)
def tError : List UInt8 := [101, 114, 114, 111, 114, 32]
def tOk : List UInt8 := [111, 107]
def tYes : List UInt8 := [121, 101, 115]
def tNo : List UInt8 := [110, 111]
def tNone : List UInt8 := [110, 111, 110, 101]
/-- An answer told: of an operation of this kind. -/
def tellOf (kind code : Int) (is : Bool) (key value num : Int) (l : List (Int × Int)) : List UInt8 :=
  if code ≠ 0 then tError ++ signed code
  else if kind = 1 then tOk
  else if kind = 2 then (if is = true then tYes else tNo)
  else if kind = 6 then signed num
  else if kind = 7 then pairsOf l
  else if kind = 3 ∨ kind = 4 ∨ kind = 5 then
    (if is = false then tNone else if kind = 3 then digits value.toNat else digits key.toNat ++ 32 :: digits value.toNat)
  else []
end Go.Proofs.YtocnmdabilaccaaDoor

/- A disk as lists: its sectors, its writes, what a write does, what is read, what a crash leaves. No program, no memory: plain lists. -/
namespace Go.Proofs.Ytpkoonokagchgaa

structure Wr where
  p : Int
  s : ByteArray

structure Dk where
  sz : Int
  ks : List ByteArray
  ws : List Wr
  off : Bool

structure Ok (d : Dk) : Prop where
  s1 : 96 ≤ d.sz
  s2 : d.sz ≤ 1024
  n1 : 1 ≤ d.ks.length
  n2 : d.ks.length ≤ 4096
  k : ∀ x ∈ d.ks, (x.size : Int) = d.sz
  w : ∀ x ∈ d.ws, 0 ≤ x.p ∧ x.p < d.ks.length ∧ 1 ≤ x.s.size ∧ (x.s.size : Int) ≤ d.sz

/-! ### one write -/
def put (t s : ByteArray) : ByteArray := s ++ t.extract s.size t.size

theorem put_size {t s : ByteArray} (h : s.size ≤ t.size) : (put t s).size = t.size := by
  unfold put
  rw [ByteArray.size_append, ByteArray.size_extract]
  omega

theorem size_zero {b : ByteArray} (h : b.size = 0) : b = ByteArray.empty := by
  cases b with
  | mk a => exact congrArg ByteArray.mk (Array.eq_empty_of_size_eq_zero h)

theorem put_empty {t s : ByteArray} (h : s.size = 0) : put t s = t := by
  obtain rfl := size_zero h
  unfold put
  simp

def doW (l : List ByteArray) (w : Wr) : List ByteArray := l.set w.p.toNat (put (l.getD w.p.toNat ByteArray.empty) w.s)

theorem doW_length (l : List ByteArray) (w : Wr) : (doW l w).length = l.length := by simp [doW]

theorem doW_nothing {l : List ByteArray} {w : Wr} (h : w.s.size = 0) : doW l w = l := by
  unfold doW
  rw [put_empty h]
  apply List.ext_getElem?
  intro i
  by_cases hi : i = w.p.toNat
  · subst hi
    by_cases hl : w.p.toNat < l.length
    · simp [hl]
    · simp [hl]
  · rw [List.getElem?_set_ne (Ne.symm hi)]

def image (ks : List ByteArray) (ws : List Wr) : List ByteArray := ws.foldl doW ks

theorem image_nil (ks : List ByteArray) : image ks [] = ks := rfl
theorem image_cons (ks : List ByteArray) (w : Wr) (ws : List Wr) : image ks (w :: ws) = image (doW ks w) ws := rfl
theorem image_append (ks : List ByteArray) (a b : List Wr) : image ks (a ++ b) = image (image ks a) b := by
  simp [image, List.foldl_append]
theorem image_snoc (ks : List ByteArray) (a : List Wr) (w : Wr) : image ks (a ++ [w]) = doW (image ks a) w := by
  simp [image, List.foldl_append]
theorem image_length (ks : List ByteArray) (ws : List Wr) : (image ks ws).length = ks.length := by
  induction ws generalizing ks with
  | nil => rfl
  | cons w ws ih => rw [image_cons, ih, doW_length]

def Sized (z : Nat) (l : List ByteArray) : Prop := ∀ x ∈ l, x.size = z
def Fit (n z : Nat) (ws : List Wr) : Prop := ∀ x ∈ ws, 0 ≤ x.p ∧ x.p < n ∧ x.s.size ≤ z

theorem Sized.get {z : Nat} {l : List ByteArray} (h : Sized z l) {i : Nat} {x : ByteArray} (hx : l[i]? = some x) : x.size = z :=
  h x (List.mem_of_getElem? hx)

theorem Sized.getD {z : Nat} {l : List ByteArray} (h : Sized z l) {i : Nat} (hi : i < l.length) : (l.getD i ByteArray.empty).size = z := by
  rw [List.getD_eq_getElem?_getD, List.getElem?_eq_getElem hi]
  exact h _ (List.getElem_mem hi)

theorem Sized.doW {z : Nat} {l : List ByteArray} (h : Sized z l) {w : Wr} (hw : 0 ≤ w.p ∧ w.p < l.length ∧ w.s.size ≤ z) : Sized z (doW l w) := by
  obtain ⟨h0, h1, h2⟩ := hw
  intro x hx
  rcases List.mem_or_eq_of_mem_set hx with h3 | h3
  · exact h x h3
  · rw [h3]
    have := h.getD (i := w.p.toNat) (by omega)
    rw [put_size (by omega), this]

theorem Fit.head {n z : Nat} {w : Wr} {ws : List Wr} (h : Fit n z (w :: ws)) : 0 ≤ w.p ∧ w.p < n ∧ w.s.size ≤ z := h w (by simp)
theorem Fit.tail {n z : Nat} {w : Wr} {ws : List Wr} (h : Fit n z (w :: ws)) : Fit n z ws := fun x hx => h x (by simp [hx])
theorem Fit.get {n z : Nat} {ws : List Wr} (h : Fit n z ws) {i : Nat} {w : Wr} (hw : ws[i]? = some w) : 0 ≤ w.p ∧ w.p < n ∧ w.s.size ≤ z := h w (List.mem_of_getElem? hw)
theorem Fit.take {n z : Nat} {ws : List Wr} (h : Fit n z ws) (i : Nat) : Fit n z (ws.take i) := fun x hx => h x (List.mem_of_mem_take hx)

theorem Sized.image {z : Nat} {l : List ByteArray} (h : Sized z l) {ws : List Wr} (hw : Fit l.length z ws) : Sized z (image l ws) := by
  induction ws generalizing l with
  | nil => exact h
  | cons w ws ih =>
    rw [image_cons]
    exact ih (h.doW hw.head) (by rw [doW_length]; exact hw.tail)

/-! ### one sector alone -/
def toOne (ws : List Wr) (p : Int) : List Wr := (ws.filter (fun w => w.p == p)).map (fun w => ⟨0, w.s⟩)

theorem toOne_nil (p : Int) : toOne [] p = [] := rfl
theorem toOne_append (a b : List Wr) (p : Int) : toOne (a ++ b) p = toOne a p ++ toOne b p := by simp [toOne]
theorem toOne_same {w : Wr} {p : Int} (h : w.p = p) : toOne [w] p = [⟨0, w.s⟩] := by simp [toOne, h]
theorem toOne_other {w : Wr} {p : Int} (h : w.p ≠ p) : toOne [w] p = [] := by simp [toOne, h]
theorem toOne_zero {ws : List Wr} {p : Int} {x : Wr} (h : x ∈ toOne ws p) : x.p = 0 := by
  simp only [toOne, List.mem_map] at h
  obtain ⟨y, _, rfl⟩ := h
  rfl
theorem toOne_fit {n z : Nat} {ws : List Wr} (h : Fit n z ws) (p : Int) : Fit 1 z (toOne ws p) := by
  intro x hx
  simp only [toOne, List.mem_map, List.mem_filter] at hx
  obtain ⟨y, ⟨hy, _⟩, rfl⟩ := hx
  exact ⟨Int.le_refl _, by show (0 : Int) < ((1 : Nat) : Int); decide, (h y hy).2.2⟩

theorem toOne_cons (w : Wr) (ws : List Wr) (p : Int) : toOne (w :: ws) p = toOne [w] p ++ toOne ws p := toOne_append [w] ws p

theorem image_one {z : Nat} {ks : List ByteArray} {ws : List Wr} (hf : Fit ks.length z ws) {i : Nat} {x : ByteArray} (hx : ks[i]? = some x) :
    ∃ y, (image ks ws)[i]? = some y ∧ image [x] (toOne ws (i : Int)) = [y] := by
  induction ws generalizing ks x with
  | nil => exact ⟨x, hx, rfl⟩
  | cons w ws ih =>
    obtain ⟨h0, h1, h2⟩ := hf.head
    have hi : i < ks.length := (List.getElem?_eq_some_iff.mp hx).1
    rw [image_cons, toOne_cons, image_append]
    by_cases hp : w.p = (i : Int)
    · rw [toOne_same hp]
      have hd : (doW ks w)[i]? = some (put x w.s) := by
        unfold doW
        rw [hp, Int.toNat_natCast, List.getElem?_set_self hi, List.getD_eq_getElem?_getD, hx]
        rfl
      have := ih (ks := doW ks w) (x := put x w.s) (by rw [doW_length]; exact hf.tail) hd
      have he : image [x] [⟨0, w.s⟩] = [put x w.s] := rfl
      rw [he]
      exact this
    · rw [toOne_other hp, image_nil]
      have hd : (doW ks w)[i]? = some x := by
        unfold doW
        rw [List.getElem?_set_ne (by omega)]
        exact hx
      exact ih (ks := doW ks w) (by rw [doW_length]; exact hf.tail) hd

/-! ### what is kept of writes -/
def tear (w : Wr) (n : Int) : Wr := ⟨w.p, w.s.extract 0 (min (max n 0) w.s.size).toNat⟩

def tears : List Wr → List Int → List Wr
  | [], _ => []
  | _, [] => []
  | w :: ws, n :: k => tear w n :: tears ws k

theorem tear_size (w : Wr) (n : Int) : (tear w n).s.size = (min (max n 0) w.s.size).toNat := by
  simp only [tear, ByteArray.size_extract]
  omega
theorem tear_le (w : Wr) (n : Int) : (tear w n).s.size ≤ w.s.size := by rw [tear_size]; omega
theorem tear_none {w : Wr} {n : Int} (h : n ≤ 0) : (tear w n).s.size = 0 := by rw [tear_size]; omega

theorem tears_nil (ws : List Wr) : tears ws [] = [] := by cases ws <;> rfl
theorem tears_length (ws : List Wr) (k : List Int) : (tears ws k).length = min k.length ws.length := by
  induction ws generalizing k with
  | nil => cases k <;> simp [tears]
  | cons w ws ih =>
    cases k with
    | nil => simp [tears]
    | cons n k => simp only [tears, List.length_cons, ih]; omega

theorem tears_get {ws : List Wr} {k : List Int} {i : Nat} {w : Wr} {n : Int} (hw : ws[i]? = some w) (hn : k[i]? = some n) : (tears ws k)[i]? = some (tear w n) := by
  induction ws generalizing k i with
  | nil => simp at hw
  | cons v ws ih =>
    cases k with
    | nil => simp at hn
    | cons m k =>
      cases i with
      | zero => simp only [List.getElem?_cons_zero, Option.some.injEq] at hw hn; subst hw; subst hn; rfl
      | succ i => simp only [List.getElem?_cons_succ] at hw hn; simpa [tears] using ih hw hn

theorem tears_mem {ws : List Wr} {k : List Int} {x : Wr} (h : x ∈ tears ws k) : ∃ w ∈ ws, ∃ n, x = tear w n := by
  induction ws generalizing k with
  | nil => simp [tears] at h
  | cons v ws ih =>
    cases k with
    | nil => simp [tears] at h
    | cons m k =>
      simp only [tears, List.mem_cons] at h
      rcases h with rfl | h
      · exact ⟨v, by simp, m, rfl⟩
      · obtain ⟨w, hw, n, hn⟩ := ih h
        exact ⟨w, by simp [hw], n, hn⟩

theorem tears_fit {n z : Nat} {ws : List Wr} (h : Fit n z ws) (k : List Int) : Fit n z (tears ws k) := by
  intro x hx
  obtain ⟨w, hw, m, rfl⟩ := tears_mem hx
  have := h w hw
  have h2 := tear_le w m
  exact ⟨this.1, this.2.1, by omega⟩

theorem tears_snoc {ws : List Wr} {k : List Int} {i : Nat} {w : Wr} {n : Int} (hw : ws[i]? = some w) (hn : k[i]? = some n) :
    tears (ws.take (i + 1)) k = tears (ws.take i) k ++ [tear w n] := by
  induction ws generalizing k i with
  | nil => simp at hw
  | cons v ws ih =>
    cases k with
    | nil => simp at hn
    | cons m k =>
      cases i with
      | zero => simp only [List.getElem?_cons_zero, Option.some.injEq] at hw hn; subst hw; subst hn; cases ws <;> simp [tears]
      | succ i =>
        simp only [List.getElem?_cons_succ] at hw hn
        simp [tears, ih hw hn]

theorem tears_past {ws : List Wr} {k : List Int} {i : Nat} (h : k.length ≤ i) : tears (ws.take (i + 1)) k = tears (ws.take i) k := by
  induction ws generalizing k i with
  | nil => simp [tears]
  | cons v ws ih =>
    cases k with
    | nil => simp [tears_nil]
    | cons m k =>
      cases i with
      | zero => simp at h
      | succ i => simp only [List.length_cons] at h; simpa [tears] using ih (k := k) (i := i) (by omega)

theorem image_none {ks : List ByteArray} {ws : List Wr} (h : ∀ w ∈ ws, w.s.size = 0) : image ks ws = ks := by
  induction ws generalizing ks with
  | nil => rfl
  | cons w ws ih => rw [image_cons, doW_nothing (h w (by simp))]; exact ih (fun x hx => h x (by simp [hx]))

/-! ### right disks -/
theorem Ok.sized {d : Dk} (h : Ok d) : Sized d.sz.toNat d.ks := fun x hx => by have := h.k x hx; omega
theorem Ok.fit {d : Dk} (h : Ok d) : Fit d.ks.length d.sz.toNat d.ws := fun x hx => by have := h.w x hx; exact ⟨this.1, this.2.1, by omega⟩

def wipe (d : Dk) (l : List ByteArray) : Dk := ⟨d.sz, l, [], false⟩

theorem Ok.wipe {d : Dk} (h : Ok d) {l : List ByteArray} (hn : l.length = d.ks.length) (hl : Sized d.sz.toNat l) : Ok (wipe d l) :=
  ⟨h.s1, h.s2, by have := h.n1; show 1 ≤ l.length; omega, by have := h.n2; show l.length ≤ 4096; omega, fun x hx => by
    have h1 := hl x hx
    have h2 := h.s1
    show (x.size : Int) = d.sz
    omega, fun x hx => by exact absurd hx (by simp [Ytpkoonokagchgaa.wipe])⟩

def imageD (d : Dk) : List ByteArray := image d.ks d.ws
def crashD (d : Dk) (k : List Int) : List ByteArray := image d.ks (tears d.ws k)

theorem imageD_length (d : Dk) : (imageD d).length = d.ks.length := image_length _ _
theorem crashD_length (d : Dk) (k : List Int) : (crashD d k).length = d.ks.length := image_length _ _
theorem imageD_sized {d : Dk} (h : Ok d) : Sized d.sz.toNat (imageD d) := h.sized.image h.fit
theorem crashD_sized {d : Dk} (h : Ok d) (k : List Int) : Sized d.sz.toNat (crashD d k) := h.sized.image (tears_fit h.fit k)

theorem Ok.image {d : Dk} (h : Ok d) : Ok (Ytpkoonokagchgaa.wipe d (imageD d)) := h.wipe (imageD_length d) (imageD_sized h)
theorem Ok.crash {d : Dk} (h : Ok d) (k : List Int) : Ok (Ytpkoonokagchgaa.wipe d (crashD d k)) := h.wipe (crashD_length d k) (crashD_sized h k)

def more (d : Dk) (p : Int) (s : ByteArray) : Dk := ⟨d.sz, d.ks, d.ws ++ [⟨p, s⟩], false⟩

theorem Ok.more {d : Dk} (h : Ok d) {p : Int} {s : ByteArray} (h0 : 0 ≤ p) (h1 : p < d.ks.length) (h2 : 1 ≤ s.size) (h3 : (s.size : Int) ≤ d.sz) : Ok (more d p s) :=
  ⟨h.s1, h.s2, h.n1, h.n2, h.k, fun x hx => by
    simp only [Ytpkoonokagchgaa.more, List.mem_append, List.mem_singleton] at hx
    rcases hx with hx | rfl
    · exact h.w x hx
    · exact ⟨h0, h1, h2, h3⟩⟩

def cutD (d : Dk) : Dk := ⟨d.sz, d.ks, d.ws, true⟩
theorem Ok.cut {d : Dk} (h : Ok d) : Ok (cutD d) := ⟨h.s1, h.s2, h.n1, h.n2, h.k, h.w⟩

end Go.Proofs.Ytpkoonokagchgaa

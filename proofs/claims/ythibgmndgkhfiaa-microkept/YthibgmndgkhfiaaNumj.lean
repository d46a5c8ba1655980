/- Small steps as plain lists: one alone; beginnings. No program. -/
import Derived.Test.YthibgmndgkhfiaaNumi
namespace Go.Proofs.Ythibgmndgkhfiaa

theorem wo_len {m : Mm} (h : Ok m) : woB (m.vol.length : Int) = true := decide_eq_true ⟨by omega, by have := h.2.1; omega, by have := h.2.2.1; omega⟩
theorem mr_off {m : Mm} (h : ok m = false) (l : List Mi) : mrB m l = false := by unfold mrB; rw [h]; rfl
theorem mr_on {m : Mm} (h : ok m = true) (l : List Mi) : mrB m l = l.all (miB (m.vol.length : Int)) := by
  unfold mrB; rw [h, chB_wo (wo_len (ok_out h))]; rfl
theorem mr_one {m : Mm} (h : ok m = true) (x : Mi) : mrB m [x] = miB (m.vol.length : Int) x := by rw [mr_on h]; simp
theorem run_one (m : Mm) (x : Mi) : runM m [x] = doM m x := rfl
theorem put_zero {m : Mm} {x : Mi} (h : ok m = true) (hk : x.k = 1) (hm : miB (m.vol.length : Int) x = true) : putE m x.a = 0 := by
  rw [miB_one hk] at hm
  have := of_decide_eq_true hm
  exact putE_yes (putB_yes h this.1 this.2)
theorem mr_take {m : Mm} {l : List Mi} (h : mrB m l = true) (k : Nat) : mrB m (l.take k) = true := by
  have h1 := ok_true (mrB_out h).1
  rw [mr_on h1] at h ⊢
  rw [List.all_eq_true] at h ⊢
  exact fun x hx => h x (List.mem_of_mem_take hx)
theorem mr_drop {m : Mm} {l : List Mi} (h : mrB m l = true) (k : Nat) : mrB m (l.drop k) = true := by
  have h1 := ok_true (mrB_out h).1
  rw [mr_on h1] at h ⊢
  rw [List.all_eq_true] at h ⊢
  exact fun x hx => h x (List.mem_of_mem_drop hx)
/-- What is made of a memory that may be may be, and has as many words. -/
theorem mr_same {m : Mm} (h : ok m = true) (a l : List Mi) : mrB (runM m a) l = mrB m l := by
  rw [mr_on h, mr_on (ok_true (ok_run (ok_out h) a)), (run_len m a).1]
theorem mr_append {m : Mm} (a b : List Mi) : mrB m (a ++ b) = (mrB m a && mrB m b) := by
  cases h : ok m
  · rw [mr_off h, mr_off h, mr_off h]; rfl
  · rw [mr_on h, mr_on h, mr_on h, List.all_append]
theorem ru_next {m : Mm} {l : List Mi} (h : mrB m l = true) {k : Nat} {x : Mi} (hx : l[k]? = some x) : ruM (runM m (l.take k)) [x] = runM m (l.take (k + 1)) := by
  have h1 := ok_true (mrB_out h).1
  have h2 : mrB (runM m (l.take k)) [x] = true := by
    rw [mr_same h1]
    have := mr_take h (k + 1)
    rw [take_next hx, mr_append] at this
    simp only [Bool.and_eq_true] at this
    exact this.2
  rw [ruM_yes h2, run_one, runM_next hx]
end Go.Proofs.Ythibgmndgkhfiaa

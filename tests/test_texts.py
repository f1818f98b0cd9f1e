"""Promise 94: the texts of halls."""

from movedround import errors
from movedround.hall import Hall
from movedround.texts import hall_text, read_hall
from tests.judges_halls import drawn_own_hall, own_read, own_text, seeded
from tests.support import Case, all_dials, anything, own_places
from tests.test_hall import hall_of

EXAMPLE = "dials 5\ncome 0 1 2 3 4\ntake 0 1\ntake 1 2\nhand 1 2 4\ngo"
ALL_DEEDS = "dials 2 3\ncome 0,0 0,1 1,2\ntake 0,0 1,0\ntake 0,1 0,0\nswap 0,1 0,0\ngive_up 0,1\nleave 1,2\ngo"


class Texts(Case):

    def read_wrong(self, text, line):
        self.assertEqual(self.refused(errors.BadText, read_hall, text=text).line, line, repr(text)[:300])

    def look_at(self, text):
        own = own_read(text)
        if isinstance(own, int):
            self.read_wrong(text, own)
            return
        hall = self.told(read_hall, text=text)
        self.assertEqual((hall.log(), hall.tracks(), hall.held()), (own.done, own.tracks, own.moves))
        self.assertEqual(hall_text(hall), text)

    def test_example_by_hand(self):
        hall = Hall((5,))
        hall.come(tuple(own_places((5,))))
        hall.take((0,), (1,))
        hall.take((1,), (2,))
        hall.hand((1,), (2,), (4,))
        self.assertEqual(self.told(hall_text, hall=hall), EXAMPLE[:-3])
        self.assertEqual(self.told(read_hall, text=EXAMPLE[:-3]), hall)
        self.assertEqual(hall.free(), [(0,), (3,)])
        self.assertEqual(hall.owner((3,)), (2,))
        self.read_wrong(EXAMPLE, 6)
        with_leave = EXAMPLE[:-3] + "\nleave 3\ngo"
        self.assertEqual(hall_text(self.told(read_hall, text=with_leave)), with_leave)

    def test_all_deeds(self):
        hall = self.told(read_hall, text=ALL_DEEDS)
        self.assertEqual(hall.log(), [
            ("come", ((0, 0), (0, 1), (1, 2))), ("take", (0, 0), (1, 0)), ("take", (0, 1), (0, 0)),
            ("swap", (0, 1), (0, 0)), ("give_up", ((0, 1),)), ("leave", ((1, 2),)), ("go",)])
        self.assertEqual(hall_text(hall), ALL_DEEDS)

    def test_each_hall_is_read_from_its_text(self):
        draw = seeded(940)
        for sizes in all_dials(24):
            for many in (0, 3, 30):
                own = drawn_own_hall(draw, sizes, many)
                hall = hall_of(own)
                text = self.told(hall_text, hall=hall)
                self.assertEqual(text, own_text(sizes, own.done))
                other = self.told(read_hall, text=text)
                self.assertEqual((other == hall, other.log(), other.tracks()), (True, hall.log(), hall.tracks()))
                self.refuses_redo(other)

    def refuses_redo(self, hall):
        self.assertRaises(errors.NothingUndone, hall.redo)

    def test_what_was_taken_back_is_not_in_it(self):
        hall = Hall((24,))
        hall.come(((0,), (23,)))
        hall.take((23,), (10,))
        hall.undo()
        self.assertEqual(hall_text(hall), "dials 24\ncome 0 23")
        self.refuses_redo(read_hall("dials 24\ncome 0 23"))
        hall.redo()
        self.assertEqual(hall_text(hall), "dials 24\ncome 0 23\ntake 23 10")

    def test_each_place_of_a_text_changed(self):
        """Each sign left out, doubled, or replaced: the line from which on it is none, by a reader of the tests' own."""
        for text in (EXAMPLE, ALL_DEEDS, "dials 2", "dials 12 2\ncome 10,1 11,0\nhand 1,1 11,0 10,1"):
            for at in range(len(text) + 1):
                for sign in ("", " ", "0", "1", "-", "+", "\n", ",", "\t", "\r", "5", "e", "\u0661", "_", ".", "\x0b"):
                    self.look_at(text[:at] + sign + text[at:])
                    self.look_at(text[:at] + sign + text[at + 1:])

    def test_lines_left_out_doubled_and_exchanged(self):
        draw = seeded(941)
        for sizes in ((2,), (5,), (2, 2), (3, 4), (2, 2, 2, 3)):
            for _ in range(12):
                lines = own_text(sizes, drawn_own_hall(draw, sizes, 20).done).split("\n")
                at, other = draw.randrange(len(lines)), draw.randrange(len(lines))
                self.look_at("\n".join(lines[:at] + lines[at + 1:]))
                self.look_at("\n".join(lines[:at] + lines[at:at + 1] + lines[at:]))
                lines[at], lines[other] = lines[other], lines[at]
                self.look_at("\n".join(lines))

    def test_the_first_line(self):
        for line in ("", " ", "dials", "dials ", "dials  5", " dials 5", "dials 5 ", "dials 05", "dials +5", "dials -5",
                     "dials 1", "dials 25", "dials 5 5", "dials 2 2 2 2 2", "dials 0", "dials x", "dials 5,2", "dial 5",
                     "Dials 5", "dials\t5", "dials 5\r", "dials 5\u2028", "dials \uff15", "dials 5.0", "dials 2_4",
                     "come 0", "go", "dials " + "1" * 5000, "dials 5" + "0" * 5000, "dials " + "9" * 100000, "\n"):
            self.read_wrong(line, 1)
            self.read_wrong(line + "\ngo", 1)
        for sizes in all_dials(24):
            self.assertEqual(self.told(read_hall, text="dials " + " ".join(map(str, sizes))), Hall(sizes))

    def test_lines_of_deeds(self):
        for line in ("", " ", "go ", " go", "go 0", "Go", "come", "come ", "come 0  1", "come 1 0", "come 0 0", "come 5",
                     "come 00", "come +0", "come -0", "come 0,1", "come 0,", "come ,0", "come x", "leave 0", "give_up 0",
                     "give up 0", "hand 0 0 1", "take 0 0", "swap 0 1", "undo", "redo", "dials 5", "come " + "0" * 9999,
                     "come " + "7" * 100000, "take " + "1" * 5000 + " 0", "come \u0660", "come 0\r", "come 0\tgo", "log",
                     "here", "come 0\x0cgo", "come 0\x85", "come 0\u2028go", "copy", "go,", "come 0.", "_do", "come None"):
            self.read_wrong("dials 5\n" + line, 2)
            self.read_wrong("dials 5\n" + line + "\ngo\ngo", 2)
            self.read_wrong("dials 5\ngo\n" + line, 3)
        for line in ("hand 0 0", "hand 0 0 1 2", "take 0", "take 0 0 0", "swap 0", "hand 0,0 0 1", "take 0 5", "take 0 -1",
                     "take 2 0", "hand 5 0 1", "hand 0 1 1", "give_up 0", "come 0", "leave 2", "swap 0 1", "take",
                     "hand", "swap", "leave", "give_up", "take 00 0", "take 0 00", "hand 1 0 01"):
            self.read_wrong("dials 5\ncome 0 1\n" + line, 3)
        self.read_wrong("dials 5\n", 2)
        self.read_wrong("dials 5\ngo\n", 3)
        self.read_wrong("dials 5\ngo\n\ngo", 3)
        self.assertEqual(len(self.told(read_hall, text="dials 5\ngo\ngo")), 2)

    def test_a_deed_that_the_hall_refuses(self):
        for text, line in (("dials 4\ncome 0 1\ncome 1 2", 3), ("dials 4\ncome 0 1\ntake 0 1\ntake 1 0", 4),
                           ("dials 4\ncome 0 1\ntake 0 1\ngo", 4), ("dials 4\ncome 0 2\ntake 0 1\ngo\ntake 0 1", 5),
                           ("dials 4\ncome 0 1\ntake 0 1\nhand 0 0 1", 4), ("dials 4\ncome 0\nleave 0 1", 3)):
            self.read_wrong(text, line)
            self.read_wrong(text + "\ngo", line)

    def test_what_is_no_string_or_no_hall(self):
        for value in anything():
            if type(value) is not str:
                self.read_wrong(value, None)
            if type(value) is not Hall:
                self.refused(errors.BadHall, hall_text, hall=value)
        for value in anything():
            if type(value) is str and value != "dials 2":
                self.read_wrong(value, 1)
        self.read_wrong(None, None)
        self.assertEqual(self.told(hall_text, hall=Hall((2, 3))), "dials 2 3")

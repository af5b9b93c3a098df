"""The names that a sheet gives to places and ties, and the deeds that it means by them."""

from webstore.errors import NoPlace, NoTie, Taken


class Names:
    """The numbers of those places and ties that are there, by their names."""

    def __init__(self, place_numbers, tie_numbers):
        self.place_numbers = dict(place_numbers)
        self.tie_numbers = dict(tie_numbers)

    def twin(self):
        """The same names, to be changed by themselves."""
        return Names(self.place_numbers, self.tie_numbers)

    def place_called(self, name):
        """The number of the place of this name; refused where there is none."""
        if name not in self.place_numbers:
            raise NoPlace(f"there is no place {name}")
        return self.place_numbers[name]

    def tie_called(self, name):
        """The number of the tie of this name; refused where there is none."""
        if name not in self.tie_numbers:
            raise NoTie(f"there is no tie {name}")
        return self.tie_numbers[name]

    def name_of(self, word, number):
        """The name of the "place" or of the "tie" with this number."""
        numbers = self.place_numbers if word == "place" else self.tie_numbers
        return [name for name, known in numbers.items() if known == number][0]

    def deed_for(self, order):
        """The deed that an order of a sheet means; refused where a name is taken, or isn't there."""
        word, name = order[:2]
        if word == "place":
            need_free(self.place_numbers, name)
            return ("add_place",) + order[2:]
        if word == "tie":
            need_free(self.tie_numbers, name)
            kind, start, end, fields = order[2:]
            return ("add_tie", kind, self.place_called(start), self.place_called(end), fields)
        if word == "cut":
            return ("take_tie", self.tie_called(name))
        number = self.place_called(name)
        if word == "drop":
            return ("take_place", number)
        return ("set_place", number, order[2], order[3] if word == "set" else None)

    def note(self, order, number):
        """Gives the name of an order that was done to what it made, or makes it free again."""
        word, name = order[:2]
        if word == "place":
            self.place_numbers[name] = number
        elif word == "tie":
            self.tie_numbers[name] = number
        elif word == "drop":
            del self.place_numbers[name]
        elif word == "cut":
            del self.tie_numbers[name]


def need_free(numbers, name):
    """Refuses a name that is borne already."""
    if name in numbers:
        raise Taken(f"the name {name} is taken")

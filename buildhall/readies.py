"""Ready jobs, and which of them goes first."""


def goes_by(row):
    return (-row[1], row[2], row[0])


class Readies:
    def __init__(self):
        # Rows of a place, a rank and a turn, by their places.
        self.waiting = {}

    def put(self, place, rank, turn):
        self.waiting[place] = (place, rank, turn)

    def take(self):
        rows = self.rows()
        if not rows:
            return None
        place = rows[0][0]
        self.drop(place)
        return place

    def drop(self, place):
        self.waiting.pop(place)

    def rows(self):
        return sorted(self.waiting.values(), key=goes_by)

    def many(self):
        return len(self.waiting)

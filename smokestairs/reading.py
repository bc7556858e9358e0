"""The one list of calls, parted into calls."""

# For each call, by its number: how many whole numbers it has, and how many rows.
FORMS = (
    (0, 1),
    (0, 0),
    (1, 0),
    (1, 0),
    (1, 0),
    (0, 0),
    (0, 0),
    (1, 0),
    (0, 1),
    (1, 0),
    (1, 0),
    (1, 2),
    (0, 2),
    (1, 1),
    (1, 1),
)


# Its end is kept because only its rows tell where the next call begins.
class Call:
    def __init__(self, kind, numbers, rows, end):
        self.kind = kind
        self.numbers = numbers
        self.rows = rows
        self.end = end


def read_calls(calls):
    found = []
    start = 0
    while start < len(calls):
        call = read_call(calls, start)
        found.append(call)
        start = call.end
    return found


def read_call(calls, start):
    kind = calls[start]
    form = FORMS[kind]
    position = start + 1 + form[0]
    numbers = calls[start + 1:position]
    rows = []
    for row_number in range(form[1]):
        row_end = position + 1 + calls[position]
        rows.append(calls[position + 1:row_end])
        position = row_end
    return Call(kind, numbers, rows, position)

"""Cue sheets: how they are read from bytes and shown as bytes, the leads of their reels, and the plan of a show."""

LINE_END = 10
BLANK = 32
DIGIT_0 = 48
DIGIT_9 = 57
MOST_DIGITS = 4
MOST_REELS = 6
MOST_BYTES = 1000
MOST_BYTE = 255

NO_FORM = 1
BAD_NUMBER = 2
OUT_OF_PLACE = 3
TOO_MANY = 4
BAD_CUES = 5

# A form's place in this tuple is its number; "N" stands for a number.
FORMS = (
    ("up", "N"),
    ("strike", "N"),
    ("down", "N"),
    ("leader", "N"),
    ("reel", "N", "frames", "N", "motor", "N", "change", "N"),
    ("reel", "N", "frames", "N", "end"),
)
RANGES = (
    ((2, 48),),
    ((0, 48),),
    ((0, 48),),
    ((1, 96),),
    ((1, 99), (1, 2000), (0, 2000), (0, 2000)),
    ((1, 99), (1, 2000)),
)
SETTINGS = 4
REEL_WITH_CUES = 4


class Reel:
    def __init__(self, name, frames, motor, change, ends):
        self.name = name
        self.frames = frames
        self.motor = motor
        self.change = change
        self.ends = ends


class Sheet:
    def __init__(self):
        # How many of the four settings have been read: they come in one order only.
        self.settings = 0
        self.up = 0
        self.strike = 0
        self.down = 0
        self.leader = 0
        self.reels = []


def last_frame(reel):
    if reel.ends:
        return reel.frames - 1
    return reel.change


def first_lead(sheet):
    return 1 + sheet.up // 2 + max(0, sheet.strike - sheet.up)


def lead_behind(sheet, reel):
    return 1 + sheet.up // 2 + (reel.change - reel.motor - sheet.up)


def is_reel(sheet, number):
    return number >= 0 and number < len(sheet.reels)


def lead_of(sheet, number):
    if number == 0:
        return first_lead(sheet)
    return lead_behind(sheet, sheet.reels[number - 1])


# For each reel the ticks of its first and its last frame to be shown: with right leads one frame follows another.
def plan_of(sheet):
    ticks = []
    first = 1 + max(sheet.up, sheet.strike)
    for reel in sheet.reels:
        last = first + last_frame(reel)
        ticks.append(first)
        ticks.append(last)
        first = last + 1
    return ticks


def codes_of(text):
    return [ord(sign) for sign in text]


def split_at(codes, mark):
    parts = []
    part = []
    for code in codes:
        if code == mark:
            parts.append(part)
            part = []
        else:
            part.append(code)
    parts.append(part)
    return parts


def words_of(line):
    return [word for word in split_at(line, BLANK) if len(word) > 0]


# -1 if the word is no number: no number of a sheet is below 0.
def number_of(word):
    if len(word) > MOST_DIGITS:
        return -1
    if len(word) > 1 and word[0] == DIGIT_0:
        return -1
    number = 0
    for code in word:
        if code < DIGIT_0 or code > DIGIT_9:
            return -1
        number = number * 10 + code - DIGIT_0
    return number


def fits(words, form):
    if len(words) != len(form):
        return False
    for word, part in zip(words, form):
        if part == "N":
            if number_of(word) < 0:
                return False
        elif word != codes_of(part):
            return False
    return True


# -1 if the words have none of the forms.
def form_of(words):
    for number, form in enumerate(FORMS):
        if fits(words, form):
            return number
    return -1


def numbers_in(words, form):
    return [number_of(word) for word, part in zip(words, form) if part == "N"]


def in_ranges(numbers, ranges):
    for number, bounds in zip(numbers, ranges):
        if number < bounds[0] or number > bounds[1]:
            return False
    return True


def is_ended(sheet):
    return len(sheet.reels) > 0 and sheet.reels[-1].ends


def may_stand(sheet, form):
    if form < SETTINGS:
        return sheet.settings == form
    return sheet.settings == SETTINGS and not is_ended(sheet)


def take_setting(sheet, form, number):
    sheet.settings = form + 1
    if form == 0:
        sheet.up = number
    elif form == 1:
        sheet.strike = number
    elif form == 2:
        sheet.down = number
    else:
        sheet.leader = number


def reel_of(form, numbers):
    if form == REEL_WITH_CUES:
        return Reel(numbers[0], numbers[1], numbers[2], numbers[3], False)
    return Reel(numbers[0], numbers[1], 0, 0, True)


def has_name(sheet, name):
    for reel in sheet.reels:
        if reel.name == name:
            return True
    return False


def has_bad_cues(sheet, reel):
    if reel.motor >= reel.change or reel.change >= reel.frames:
        return True
    if reel.change - reel.motor < max(sheet.up, sheet.strike):
        return True
    return lead_behind(sheet, reel) > sheet.leader


def take_reel(sheet, reel):
    if has_name(sheet, reel.name) or len(sheet.reels) == MOST_REELS:
        return TOO_MANY
    if not reel.ends and has_bad_cues(sheet, reel):
        return BAD_CUES
    if len(sheet.reels) == 0 and first_lead(sheet) > sheet.leader:
        return BAD_CUES
    sheet.reels.append(reel)
    return 0


# What is wrong with the line of these words, or 0 and the sheet has it.
def take_line(sheet, words):
    form = form_of(words)
    if form < 0:
        return NO_FORM
    numbers = numbers_in(words, FORMS[form])
    if not in_ranges(numbers, RANGES[form]):
        return BAD_NUMBER
    if not may_stand(sheet, form):
        return OUT_OF_PLACE
    if form < SETTINGS:
        take_setting(sheet, form, numbers[0])
        return 0
    return take_reel(sheet, reel_of(form, numbers))


# Fills a new sheet from a text; answers the line and what is wrong, or nothing if all is right.
def fill_sheet(sheet, text):
    lines = split_at(text, LINE_END)
    for number, line in enumerate(lines, start=1):
        words = words_of(line)
        if len(words) > 0:
            wrong = take_line(sheet, words)
            if wrong != 0:
                return [number, wrong]
    if not is_ended(sheet):
        return [len(lines) + 1, OUT_OF_PLACE]
    return []


def is_text(codes):
    if len(codes) > MOST_BYTES:
        return False
    for code in codes:
        if code < 0 or code > MOST_BYTE:
            return False
    return True


def shown_reel(reel):
    row = "reel " + str(reel.name) + " frames " + str(reel.frames)
    if reel.ends:
        return row + " end"
    return row + " motor " + str(reel.motor) + " change " + str(reel.change)


def shown_sheet(sheet):
    rows = [
        "up " + str(sheet.up),
        "strike " + str(sheet.strike),
        "down " + str(sheet.down),
        "leader " + str(sheet.leader),
    ]
    for reel in sheet.reels:
        rows.append(shown_reel(reel))
    return codes_of("\n".join(rows) + "\n")

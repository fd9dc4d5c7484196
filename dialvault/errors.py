"""The refusals: one class for each, all of them straight under VaultError."""


class VaultError(ValueError):
    def word(self):
        return "refused"


class NoNumber(VaultError):
    def word(self):
        return "no number"


class NoDial(VaultError):
    def __init__(self, dial):
        self.dial = dial

    def word(self):
        return "no dial"


class NoLever(VaultError):
    def __init__(self, lever):
        self.lever = lever

    def word(self):
        return "no lever"


class NoPrice(VaultError):
    def __init__(self, lever):
        self.lever = lever

    def word(self):
        return "no price"


class NoSetting(VaultError):
    def word(self):
        return "no setting"


class NoPulls(VaultError):
    def word(self):
        return "no pulls"


class TooMany(VaultError):
    def word(self):
        return "too many"


class Unlike(VaultError):
    def word(self):
        return "unlike"


class NoText(VaultError):
    def word(self):
        return "no text"


class NoGear(VaultError):
    def __init__(self, dial):
        self.dial = dial

    def word(self):
        return "no gear"


class NoLock(VaultError):
    def __init__(self, lock):
        self.lock = lock

    def word(self):
        return "no lock"


class NoLine(VaultError):
    def word(self):
        return "no line"

"""Watchyard: machines with watches, played against the weather, and paid for."""

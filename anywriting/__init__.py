"""Anywriting: numbers by any of their writings, and machines that tell the same of each."""
